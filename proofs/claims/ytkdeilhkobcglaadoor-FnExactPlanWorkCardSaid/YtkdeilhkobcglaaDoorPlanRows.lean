import Derived.Test.YtkdeilhkobcglaaDoorPlanWidths
import Derived.Test.YtkdeilhkobcglaaDoorGWork1
import Derived.Test.YtkdeilhkobcglaaDoorWorkMath
import Derived.Test.YtkdeilhkobcglaaDoorTakes2
/-
  THE ROWS THAT ONE RUN OF A PLAN's NODES MAKES, as the program bounds them.
-/
namespace Go.Proofs.YtkdeilhkobcglaaDoor
open Go Go.RowKit

theorem cutOff_calls (n : Int) (w : World) : Calls Tryd.prog 61 #[.int .i64 n] w fun e w' => e = .returned (.int .i64 (capW n)) ∧ w' = w := by
  have HE : Hid (capW n = if 2000 < n then 2000 + 1 else n) := rfl
  generalize capW n = z at *
  go_enter Tryd.func61, Tryd.ntmps61
  go_wp2
  all_goals
    go_ret
    exact ⟨congrArg (fun z => Ending.returned (.int .i64 z)) (by have := unhide HE; split at this <;> omega), rfl⟩

def RTo (ts : List Tb) (ps : List Pn) (k : Nat) (xs : List Int) : Prop := xs.length = ps.length ∧ ∀ j, j < k → xs.getD j 0 = siz ts ps j
theorem RTo.set {ts : List Tb} {ps : List Pn} {k : Nat} {xs : List Int} (h : RTo ts ps k xs) (hk : k < ps.length) {v : Int} (hv : siz ts ps k = v) : RTo ts ps (k + 1) (xs.set k v) := by
  obtain ⟨h1, h2⟩ := h
  refine ⟨by simp [h1], fun j hj => ?_⟩
  rw [getD_set (by omega)]
  by_cases e : j = k
  · rw [if_pos e, e]; exact hv.symm
  · rw [if_neg e]; exact h2 j (by omega)

set_option maxRecDepth 100000 in
set_option maxHeartbeats 8000000 in
theorem planRows_calls (ts : List Tb) (ps : List Pn) (g cap gt capt : Nat) (w : World) (hg : g < w.heap.size) (hn : PnsAt w g 0 ps) (hgt : gt < w.heap.size) (ht : TablesAt w gt 0 ts) (hG : Good ts ps) (h2000 : ps.length ≤ 2000) :
    Calls Tryd.prog 59 #[.slice (some ⟨g, 0, none⟩) ps.length cap, .slice (some ⟨gt, 0, none⟩) ts.length capt] w fun e w' => ∃ b, e = .returned (.slice (some ⟨b, 0, none⟩) ps.length ps.length) ∧ w.heap.size ≤ b ∧ FnRow w' b ps.length (siz ts ps) ∧ Below w.heap.size w w' := by
  have hmk := make_intsP ps.length (by omega)
  have hM : Hid (IntRow (w.alloc (.cells (madeCells #[.int .i64 0] ps.length) 3)) w.heap.size (List.replicate ps.length 0)) := IntRow.made w ps.length
  have hlt50 : ts.length ≤ 50 := hG.db.few
  have hr50 : ∀ (t : Nat) (h : t < ts.length), (ts[t]).Rows.length ≤ 1000 := fun t h => by
    have h1 := hG.db.rows
    have h2 := sumR_append (ts.take t) (ts.drop t)
    rw [List.take_append_drop, List.drop_eq_getElem_cons h] at h2
    simp only [sumR] at h2
    omega
  have HN := hide hn; have HG := hide hG; have HTt := hide ht; have HR50 := hide hr50
  clear hn hG ht hr50
  go_enter Tryd.func59, Tryd.ntmps59
  go_wp2
  go_loopw [13] (fun c wr => ∃ (k : Nat) (xs : List Int), k ≤ ps.length ∧ c = .int .i64 k ∧ RTo ts ps k xs ∧ IntRow wr w.heap.size xs ∧ Below w.heap.size w wr) (fun c _ => ps.length - (intOf c).toNat)
  case atStart => exact ⟨0, _, Nat.zero_le _, rfl, ⟨by simp, fun j hj => by omega⟩, hM.out, bA (Below.refl _ _) _⟩
  case round =>
    clear hM hmk
    obtain ⟨k, xs, hk, rfl, hto, hrow, hb⟩ := hrel
    by_cases hlt : k < ps.length
    · obtain ⟨c0, c1, c2, c5, c6, ⟨b3, c3, _⟩, b4, c4, _⟩ := ((unhide HN).of hg hb).at k hlt
      simp only [Nat.zero_add] at c0 c1 c2 c3 c4 c5 c6
      have hFk := (unhide HG).fld k hlt
      have hKid := (unhide HG).kids hlt
      have hsz := siz_at ts hlt hFk.1 hFk.2.1 (fun h => (hKid.1 h).2) (fun h => (hKid.2 h).2)
      have hset := fun v (hv : siz ts ps k = v) => hto.set hlt hv
      have hat := fun (j : Nat) (hj : j < k) => hto.2 j hj
      have hxl := hto.1
      have htab := fun (t : Nat) (ht : t < ts.length) => ((unhide HTt).of hgt hb).at t ht
      have j1 : (k : Int) < (ps.length : Int) := by omega
      have q1 : g < wr.heap.size := Nat.lt_of_lt_of_le hg hb.size
      have q2 : w.heap.size < wr.heap.size := hrow.size
      have q3 : gt < wr.heap.size := Nat.lt_of_lt_of_le hgt hb.size
      cases e : ps[k] with | mk K T M Ex Exs L R =>
      rw [e] at c0 c1 c2 c3 c4 c5 c6 hFk hKid hsz
      simp only at c0 c1 c2 c3 c4 c5 c6 hFk hKid hsz
      have k1 : 1 ≤ K := hFk.1
      have k2 : K ≤ 10 := hFk.2.1
      have hU : usedP ts.length K T M Ex.length Exs.length := hFk.2.2.1
      have hc : K = 1 ∨ K = 2 ∨ K = 3 ∨ K = 4 ∨ K = 5 ∨ K = 6 ∨ K = 7 ∨ K = 8 ∨ K = 9 ∨ K = 10 := by omega
      have r1 := hrow.at k (by omega)
      have r2 := hrow.frz
      have HSet := hide hset; have HAt := hide hat; have HRow := hide hrow
      have HTab := hide htab; have HU := hide hU; have HKid := hide hKid; have HSz := hide hsz
      clear hset hat hrow htab hU hFk e hto HN HTt hKid hsz HG
      rcases hc with rfl | rfl | rfl | rfl | rfl | rfl | rfl | rfl | rfl | rfl
      · have hv : siz ts ps k = 1 := by rw [unhide HSz]; simp
        have HNx := hide (unhide HSet _ hv)
        have HRw := hide (((unhide HRow).set k (by omega) (1)).of (bA (Below.refl _ _) (.cells #[.int .i64 1, .int .i64 T, .int .i64 M, .slice (some ⟨b3, 0, none⟩) Ex.length Ex.length, .slice (some ⟨b4, 0, none⟩) Exs.length Exs.length, .int .i64 L, .int .i64 R] 93)))
        clear HSz HSet HAt HRow HTab HU HKid hv
        go_wp2
        go_roundw
        case rel => exact ⟨k + 1, _, by omega, by go_num, unhide HNx, unhide HRw, bA (hb.setCell (p := ⟨w.heap.size, k, none⟩) (Nat.le_refl _) _) _⟩
        case measure => simp [intOf]; omega
      · obtain ⟨hT0, hT1⟩ := (unhide HU).2.1 rfl
        obtain ⟨t, rfl⟩ : ∃ t : Nat, T = (t : Int) := ⟨T.toNat, by omega⟩
        have htl : t < ts.length := by omega
        obtain ⟨_, _, G, d2, _⟩ := unhide HTab t htl
        simp only [Nat.zero_add] at d2
        have hrl := unhide HR50 t htl
        have hv : siz ts ps k = ((ts[t]).Rows.length : Int) := by
          rw [unhide HSz]
          simp [rowsAt, htl, capW]
          omega
        have HNx := hide (unhide HSet _ hv)
        have HRw := hide (((unhide HRow).set k (by omega) (((ts[t]).Rows.length : Int))).of (bA (Below.refl _ _) (.cells #[.int .i64 2, .int .i64 (t : Int), .int .i64 M, .slice (some ⟨b3, 0, none⟩) Ex.length Ex.length, .slice (some ⟨b4, 0, none⟩) Exs.length Exs.length, .int .i64 L, .int .i64 R] 93)))
        clear HSz HSet HAt HRow HTab HU HKid hv
        generalize (ts[t]).Rows.length = rl at *
        go_wp2
        go_roundw
        case rel => exact ⟨k + 1, _, by omega, by go_num, unhide HNx, unhide HRw, bA (hb.setCell (p := ⟨w.heap.size, k, none⟩) (Nat.le_refl _) _) _⟩
        case measure => simp [intOf]; omega
      · obtain ⟨hL0, hL1⟩ := (unhide HKid).1 (by decide)
        obtain ⟨q, rfl⟩ : ∃ q : Nat, L = (q : Int) := ⟨L.toNat, by omega⟩
        have hq : q < k := by omega
        have hv : siz ts ps k = siz ts ps q := by rw [unhide HSz]; simp
        have hqx := unhide HAt q hq
        have rq := (unhide HRow).at q (by omega)
        rw [hqx] at rq
        have hqn : (q : Int) < (ps.length : Int) := by omega
        have HNx := hide (unhide HSet _ hv)
        have HRw := hide (((unhide HRow).set k (by omega) (siz ts ps q)).of (bA (Below.refl _ _) (.cells #[.int .i64 3, .int .i64 T, .int .i64 M, .slice (some ⟨b3, 0, none⟩) Ex.length Ex.length, .slice (some ⟨b4, 0, none⟩) Exs.length Exs.length, .int .i64 (q : Int), .int .i64 R] 93)))
        clear HSz HSet HAt HRow HTab HU HKid hv hqx
        generalize siz ts ps q = z at *
        go_wp2
        go_roundw
        case rel => exact ⟨k + 1, _, by omega, by go_num, unhide HNx, unhide HRw, bA (hb.setCell (p := ⟨w.heap.size, k, none⟩) (Nat.le_refl _) _) _⟩
        case measure => simp [intOf]; omega
      · obtain ⟨hL0, hL1⟩ := (unhide HKid).1 (by decide)
        obtain ⟨q, rfl⟩ : ∃ q : Nat, L = (q : Int) := ⟨L.toNat, by omega⟩
        have hq : q < k := by omega
        have hv : siz ts ps k = siz ts ps q := by rw [unhide HSz]; simp
        have hqx := unhide HAt q hq
        have rq := (unhide HRow).at q (by omega)
        rw [hqx] at rq
        have hqn : (q : Int) < (ps.length : Int) := by omega
        have HNx := hide (unhide HSet _ hv)
        have HRw := hide (((unhide HRow).set k (by omega) (siz ts ps q)).of (bA (Below.refl _ _) (.cells #[.int .i64 4, .int .i64 T, .int .i64 M, .slice (some ⟨b3, 0, none⟩) Ex.length Ex.length, .slice (some ⟨b4, 0, none⟩) Exs.length Exs.length, .int .i64 (q : Int), .int .i64 R] 93)))
        clear HSz HSet HAt HRow HTab HU HKid hv hqx
        generalize siz ts ps q = z at *
        go_wp2
        go_roundw
        case rel => exact ⟨k + 1, _, by omega, by go_num, unhide HNx, unhide HRw, bA (hb.setCell (p := ⟨w.heap.size, k, none⟩) (Nat.le_refl _) _) _⟩
        case measure => simp [intOf]; omega
      · obtain ⟨hL0, hL1⟩ := (unhide HKid).1 (by decide)
        obtain ⟨hR0, hR1⟩ := (unhide HKid).2 (by decide)
        obtain ⟨q, rfl⟩ : ∃ q : Nat, L = (q : Int) := ⟨L.toNat, by omega⟩
        obtain ⟨j, rfl⟩ : ∃ j : Nat, R = (j : Int) := ⟨R.toNat, by omega⟩
        have hq : q < k := by omega
        have hj : j < k := by omega
        have hv : siz ts ps k = capW (siz ts ps q * siz ts ps j) := by rw [unhide HSz]; simp
        have hqx := unhide HAt q hq
        have rq := (unhide HRow).at q (by omega)
        rw [hqx] at rq
        have hjx := unhide HAt j hj
        have rj := (unhide HRow).at j (by omega)
        rw [hjx] at rj
        have hqn : (q : Int) < (ps.length : Int) := by omega
        have hjn : (j : Int) < (ps.length : Int) := by omega
        obtain ⟨hz10, hz11⟩ := siz_range ts ps (q + 1) q (by omega)
        obtain ⟨hy10, hy11⟩ := siz_range ts ps (j + 1) j (by omega)
        have HNx := hide (unhide HSet _ hv)
        have HRowW := HRow
        clear HSz HSet HAt HRow HTab HU HKid hv hqx hjx hL0 hL1 hR0 hR1
        generalize siz ts ps q = z at *
        generalize siz ts ps j = y at *
        have hm0 : 0 ≤ z * y := Int.mul_nonneg hz10 hy10
        have hm1 : z * y ≤ 2001 * 2001 := Int.mul_le_mul hz11 hy11 hy10 (by omega)
        have hwp : IntKind.i64.wrap (z * y) = z * y := wrap_small _ (by omega) (by omega)
        have HCap := hide (fun W => cutOff_calls (z * y) W)
        generalize capW (z * y) = z2 at *
        go_upto_region 13 with fail
        have hB0 := bA (Below.refl wr.heap.size wr) (.cells #[.int .i64 5, .int .i64 T, .int .i64 M, .slice (some ⟨b3, 0, none⟩) Ex.length Ex.length, .slice (some ⟨b4, 0, none⟩) Exs.length Exs.length, .int .i64 (q : Int), .int .i64 (j : Int)] 93)
        have n5 : (wr.alloc (.cells #[.int .i64 5, .int .i64 T, .int .i64 M, .slice (some ⟨b3, 0, none⟩) Ex.length Ex.length, .slice (some ⟨b4, 0, none⟩) Exs.length Exs.length, .int .i64 (q : Int), .int .i64 (j : Int)] 93)).cell? ⟨wr.heap.size, 5, none⟩ = some (.int .i64 (q : Int)) := by simp [go_sem]
        have n6 : (wr.alloc (.cells #[.int .i64 5, .int .i64 T, .int .i64 M, .slice (some ⟨b3, 0, none⟩) Ex.length Ex.length, .slice (some ⟨b4, 0, none⟩) Exs.length Exs.length, .int .i64 (q : Int), .int .i64 (j : Int)] 93)).cell? ⟨wr.heap.size, 6, none⟩ = some (.int .i64 (j : Int)) := by simp [go_sem]
        have hrB := (unhide HRowW).of hB0
        have rqb := (hB0.cell (p := ⟨w.heap.size, q, none⟩) q2).trans rq
        have rjb := (hB0.cell (p := ⟨w.heap.size, j, none⟩) q2).trans rj
        have rkb := hrB.at k (by omega)
        have rfb := hrB.frz
        have rsb := hrB.size
        have hsb : wr.heap.size < (wr.alloc (.cells #[.int .i64 5, .int .i64 T, .int .i64 M, .slice (some ⟨b3, 0, none⟩) Ex.length Ex.length, .slice (some ⟨b4, 0, none⟩) Exs.length Exs.length, .int .i64 (q : Int), .int .i64 (j : Int)] 93)).heap.size := by simp
        have HRB := hide hrB; have HBw := hide (bT hb hB0)
        have x1 : ¬ w.heap.size = wr.heap.size := by omega
        have x2 : ¬ k = q := by omega
        have x3 : ¬ k = j := by omega
        clear c0 c1 c2 c3 c4 c5 c6 rq rj r1 r2 hrB hB0 hb HRowW q1 q2 q3
        generalize (wr.alloc (.cells #[.int .i64 5, .int .i64 T, .int .i64 M, .slice (some ⟨b3, 0, none⟩) Ex.length Ex.length, .slice (some ⟨b4, 0, none⟩) Exs.length Exs.length, .int .i64 (q : Int), .int .i64 (j : Int)] 93)) = Wb at *
        generalize wr.heap.size = bx at *
        refine wp_region_held_drew (S := fun W => W.cell? ⟨bx, 5, none⟩ = some (.int .i64 (q : Int)) ∧ W.cell? ⟨bx, 6, none⟩ = some (.int .i64 (j : Int)) ∧ W.cell? ⟨w.heap.size, q, none⟩ = some (.int .i64 z) ∧ W.cell? ⟨w.heap.size, j, none⟩ = some (.int .i64 y)) (by kernel_rfl) ⟨n5, n6, rqb, rjb⟩ (fun hHeld => ?_)
        refine takeW 0 48 (.slice (some ⟨w.heap.size, 0, none⟩) ps.length ps.length) rfl rfl (by kernel_rfl) (by kernel_rfl) (by kernel_rfl) (fun _ _ _ h => h) rfl (fun wx hSw => by obtain ⟨hs1, hs2⟩ := hSw; go_simp) (by assumption) ?_
        simp only [Act.put, List.setIfInBounds_toArray, List.set_cons_succ, List.set_cons_zero]
        refine takeW 1 49 (.int .i64 (k : Int)) rfl rfl (by kernel_rfl) (by kernel_rfl) (by kernel_rfl) (fun _ _ _ h => h) rfl (fun wx hSw => by obtain ⟨hs1, hs2⟩ := hSw; go_simp) (by assumption) ?_
        simp only [Act.put, List.setIfInBounds_toArray, List.set_cons_succ, List.set_cons_zero]
        refine takeW 2 50 (.slice (some ⟨w.heap.size, 0, none⟩) ps.length ps.length) rfl rfl (by kernel_rfl) (by kernel_rfl) (by kernel_rfl) (fun _ _ _ h => h) rfl (fun wx hSw => by obtain ⟨hs1, hs2⟩ := hSw; go_simp) (by assumption) ?_
        simp only [Act.put, List.setIfInBounds_toArray, List.set_cons_succ, List.set_cons_zero]
        refine takeW 3 51 (.pointer (some ⟨bx, 5, none⟩)) rfl rfl (by kernel_rfl) (by kernel_rfl) (by kernel_rfl) (fun _ _ _ h => h) rfl (fun wx hSw => by obtain ⟨hs1, hs2⟩ := hSw; go_simp) (by assumption) ?_
        simp only [Act.put, List.setIfInBounds_toArray, List.set_cons_succ, List.set_cons_zero]
        refine takeW 4 52 (.int .i64 (q : Int)) rfl rfl (by kernel_rfl) (by kernel_rfl) (by kernel_rfl) (fun _ _ _ h => h) rfl (fun wx hSw => by obtain ⟨hs1, hs2⟩ := hSw; go_simp) (by assumption) ?_
        simp only [Act.put, List.setIfInBounds_toArray, List.set_cons_succ, List.set_cons_zero]
        refine takeW 5 53 (.pointer (some ⟨w.heap.size, q, none⟩)) rfl rfl (by kernel_rfl) (by kernel_rfl) (by kernel_rfl) (fun _ _ _ h => h) rfl (fun wx hSw => by obtain ⟨hs1, hs2⟩ := hSw; go_simp) (by assumption) ?_
        simp only [Act.put, List.setIfInBounds_toArray, List.set_cons_succ, List.set_cons_zero]
        refine takeW 6 54 (.int .i64 z) rfl rfl (by kernel_rfl) (by kernel_rfl) (by kernel_rfl) (fun _ _ _ h => h) rfl (fun wx hSw => by obtain ⟨hs1, hs2⟩ := hSw; go_simp) (by assumption) ?_
        simp only [Act.put, List.setIfInBounds_toArray, List.set_cons_succ, List.set_cons_zero]
        refine takeW 7 55 (.slice (some ⟨w.heap.size, 0, none⟩) ps.length ps.length) rfl rfl (by kernel_rfl) (by kernel_rfl) (by kernel_rfl) (fun _ _ _ h => h) rfl (fun wx hSw => by obtain ⟨hs1, hs2⟩ := hSw; go_simp) (by assumption) ?_
        simp only [Act.put, List.setIfInBounds_toArray, List.set_cons_succ, List.set_cons_zero]
        refine takeW 8 56 (.pointer (some ⟨bx, 6, none⟩)) rfl rfl (by kernel_rfl) (by kernel_rfl) (by kernel_rfl) (fun _ _ _ h => h) rfl (fun wx hSw => by obtain ⟨hs1, hs2⟩ := hSw; go_simp) (by assumption) ?_
        simp only [Act.put, List.setIfInBounds_toArray, List.set_cons_succ, List.set_cons_zero]
        refine takeW 9 57 (.int .i64 (j : Int)) rfl rfl (by kernel_rfl) (by kernel_rfl) (by kernel_rfl) (fun _ _ _ h => h) rfl (fun wx hSw => by obtain ⟨hs1, hs2⟩ := hSw; go_simp) (by assumption) ?_
        simp only [Act.put, List.setIfInBounds_toArray, List.set_cons_succ, List.set_cons_zero]
        refine takeW 10 58 (.pointer (some ⟨w.heap.size, j, none⟩)) rfl rfl (by kernel_rfl) (by kernel_rfl) (by kernel_rfl) (fun _ _ _ h => h) rfl (fun wx hSw => by obtain ⟨hs1, hs2⟩ := hSw; go_simp) (by assumption) ?_
        simp only [Act.put, List.setIfInBounds_toArray, List.set_cons_succ, List.set_cons_zero]
        refine takeW 11 59 (.int .i64 y) rfl rfl (by kernel_rfl) (by kernel_rfl) (by kernel_rfl) (fun _ _ _ h => h) rfl (fun wx hSw => by obtain ⟨hs1, hs2⟩ := hSw; go_simp) (by assumption) ?_
        simp only [Act.put, List.setIfInBounds_toArray, List.set_cons_succ, List.set_cons_zero]
        refine takeW 12 60 (.int .i64 (z * y)) rfl rfl (by kernel_rfl) (by kernel_rfl) (by kernel_rfl) (fun _ _ _ h => h) rfl (fun wx hSw => by obtain ⟨hs1, hs2⟩ := hSw; go_simp) (by assumption) ?_
        simp only [Act.put, List.setIfInBounds_toArray, List.set_cons_succ, List.set_cons_zero]
        refine wpAnyH_ready (rs := [13]) (by kernel_rfl) (by simp) ?_
        refine AllReadyH.cons rfl (fun Kx hK => ?_) AllReadyH.nil
        go_simp
        refine (unhide HCap _).mono ?_
        rintro e Wx ⟨rfl, hWx⟩
        subst hWx
        refine hK.out _ _ (by assumption) (fun hHeld2 => ?_)
        clear hK Kx
        refine takeW 14 62 (.pointer (some ⟨w.heap.size, k, none⟩)) rfl rfl (by kernel_rfl) (by kernel_rfl) (by kernel_rfl) (fun _ _ _ h => h) rfl (fun wx hSw => by obtain ⟨hs1, hs2⟩ := hSw; go_simp) (by assumption) ?_
        simp only [Act.put, List.setIfInBounds_toArray, List.set_cons_succ, List.set_cons_zero]
        refine wpAnyH_ready (rs := [15]) (by kernel_rfl) (by simp) ?_
        refine AllReadyH.cons rfl (fun Kx hK => ?_) AllReadyH.nil
        go_simp
        refine hK.out _ _ ⟨?_, ?_, ?_, ?_⟩ (fun hHeld3 => ?_)
        · exact (setCell_farN (w := Wb) x1).trans n5
        · exact (setCell_farN (w := Wb) x1).trans n6
        · exact (setCell_otherN (w := Wb) x2).trans rqb
        · exact (setCell_otherN (w := Wb) x3).trans rjb
        clear hK Kx
        refine wpAnyH_done (by kernel_rfl) ?_ _
        have HRw2 := hide (((unhide HRB).set k (by omega) z2).of (Below.refl _ _).drew)
        have HB2 := hide (((unhide HBw).setCell (p := ⟨w.heap.size, k, none⟩) (Nat.le_refl _) (.int .i64 z2)).drew)
        clear HRB HBw
        go_wp2
        go_roundw
        case rel => exact ⟨k + 1, _, by omega, by go_num, unhide HNx, unhide HRw2, unhide HB2⟩
        case measure => simp [intOf]; omega
      · obtain ⟨hL0, hL1⟩ := (unhide HKid).1 (by decide)
        obtain ⟨hR0, hR1⟩ := (unhide HKid).2 (by decide)
        obtain ⟨q, rfl⟩ : ∃ q : Nat, L = (q : Int) := ⟨L.toNat, by omega⟩
        obtain ⟨j, rfl⟩ : ∃ j : Nat, R = (j : Int) := ⟨R.toNat, by omega⟩
        have hq : q < k := by omega
        have hj : j < k := by omega
        have hv : siz ts ps k = capW (siz ts ps q * siz ts ps j) := by rw [unhide HSz]; simp
        have hqx := unhide HAt q hq
        have rq := (unhide HRow).at q (by omega)
        rw [hqx] at rq
        have hjx := unhide HAt j hj
        have rj := (unhide HRow).at j (by omega)
        rw [hjx] at rj
        have hqn : (q : Int) < (ps.length : Int) := by omega
        have hjn : (j : Int) < (ps.length : Int) := by omega
        obtain ⟨hz10, hz11⟩ := siz_range ts ps (q + 1) q (by omega)
        obtain ⟨hy10, hy11⟩ := siz_range ts ps (j + 1) j (by omega)
        have HNx := hide (unhide HSet _ hv)
        have HRowW := HRow
        clear HSz HSet HAt HRow HTab HU HKid hv hqx hjx hL0 hL1 hR0 hR1
        generalize siz ts ps q = z at *
        generalize siz ts ps j = y at *
        have hm0 : 0 ≤ z * y := Int.mul_nonneg hz10 hy10
        have hm1 : z * y ≤ 2001 * 2001 := Int.mul_le_mul hz11 hy11 hy10 (by omega)
        have hwp : IntKind.i64.wrap (z * y) = z * y := wrap_small _ (by omega) (by omega)
        have HCap := hide (fun W => cutOff_calls (z * y) W)
        generalize capW (z * y) = z2 at *
        go_upto_region 13 with fail
        have hB0 := bA (Below.refl wr.heap.size wr) (.cells #[.int .i64 6, .int .i64 T, .int .i64 M, .slice (some ⟨b3, 0, none⟩) Ex.length Ex.length, .slice (some ⟨b4, 0, none⟩) Exs.length Exs.length, .int .i64 (q : Int), .int .i64 (j : Int)] 93)
        have n5 : (wr.alloc (.cells #[.int .i64 6, .int .i64 T, .int .i64 M, .slice (some ⟨b3, 0, none⟩) Ex.length Ex.length, .slice (some ⟨b4, 0, none⟩) Exs.length Exs.length, .int .i64 (q : Int), .int .i64 (j : Int)] 93)).cell? ⟨wr.heap.size, 5, none⟩ = some (.int .i64 (q : Int)) := by simp [go_sem]
        have n6 : (wr.alloc (.cells #[.int .i64 6, .int .i64 T, .int .i64 M, .slice (some ⟨b3, 0, none⟩) Ex.length Ex.length, .slice (some ⟨b4, 0, none⟩) Exs.length Exs.length, .int .i64 (q : Int), .int .i64 (j : Int)] 93)).cell? ⟨wr.heap.size, 6, none⟩ = some (.int .i64 (j : Int)) := by simp [go_sem]
        have hrB := (unhide HRowW).of hB0
        have rqb := (hB0.cell (p := ⟨w.heap.size, q, none⟩) q2).trans rq
        have rjb := (hB0.cell (p := ⟨w.heap.size, j, none⟩) q2).trans rj
        have rkb := hrB.at k (by omega)
        have rfb := hrB.frz
        have rsb := hrB.size
        have hsb : wr.heap.size < (wr.alloc (.cells #[.int .i64 6, .int .i64 T, .int .i64 M, .slice (some ⟨b3, 0, none⟩) Ex.length Ex.length, .slice (some ⟨b4, 0, none⟩) Exs.length Exs.length, .int .i64 (q : Int), .int .i64 (j : Int)] 93)).heap.size := by simp
        have HRB := hide hrB; have HBw := hide (bT hb hB0)
        have x1 : ¬ w.heap.size = wr.heap.size := by omega
        have x2 : ¬ k = q := by omega
        have x3 : ¬ k = j := by omega
        clear c0 c1 c2 c3 c4 c5 c6 rq rj r1 r2 hrB hB0 hb HRowW q1 q2 q3
        generalize (wr.alloc (.cells #[.int .i64 6, .int .i64 T, .int .i64 M, .slice (some ⟨b3, 0, none⟩) Ex.length Ex.length, .slice (some ⟨b4, 0, none⟩) Exs.length Exs.length, .int .i64 (q : Int), .int .i64 (j : Int)] 93)) = Wb at *
        generalize wr.heap.size = bx at *
        refine wp_region_held_drew (S := fun W => W.cell? ⟨bx, 5, none⟩ = some (.int .i64 (q : Int)) ∧ W.cell? ⟨bx, 6, none⟩ = some (.int .i64 (j : Int)) ∧ W.cell? ⟨w.heap.size, q, none⟩ = some (.int .i64 z) ∧ W.cell? ⟨w.heap.size, j, none⟩ = some (.int .i64 y)) (by kernel_rfl) ⟨n5, n6, rqb, rjb⟩ (fun hHeld => ?_)
        refine takeW 0 48 (.slice (some ⟨w.heap.size, 0, none⟩) ps.length ps.length) rfl rfl (by kernel_rfl) (by kernel_rfl) (by kernel_rfl) (fun _ _ _ h => h) rfl (fun wx hSw => by obtain ⟨hs1, hs2⟩ := hSw; go_simp) (by assumption) ?_
        simp only [Act.put, List.setIfInBounds_toArray, List.set_cons_succ, List.set_cons_zero]
        refine takeW 1 49 (.int .i64 (k : Int)) rfl rfl (by kernel_rfl) (by kernel_rfl) (by kernel_rfl) (fun _ _ _ h => h) rfl (fun wx hSw => by obtain ⟨hs1, hs2⟩ := hSw; go_simp) (by assumption) ?_
        simp only [Act.put, List.setIfInBounds_toArray, List.set_cons_succ, List.set_cons_zero]
        refine takeW 2 50 (.slice (some ⟨w.heap.size, 0, none⟩) ps.length ps.length) rfl rfl (by kernel_rfl) (by kernel_rfl) (by kernel_rfl) (fun _ _ _ h => h) rfl (fun wx hSw => by obtain ⟨hs1, hs2⟩ := hSw; go_simp) (by assumption) ?_
        simp only [Act.put, List.setIfInBounds_toArray, List.set_cons_succ, List.set_cons_zero]
        refine takeW 3 51 (.pointer (some ⟨bx, 5, none⟩)) rfl rfl (by kernel_rfl) (by kernel_rfl) (by kernel_rfl) (fun _ _ _ h => h) rfl (fun wx hSw => by obtain ⟨hs1, hs2⟩ := hSw; go_simp) (by assumption) ?_
        simp only [Act.put, List.setIfInBounds_toArray, List.set_cons_succ, List.set_cons_zero]
        refine takeW 4 52 (.int .i64 (q : Int)) rfl rfl (by kernel_rfl) (by kernel_rfl) (by kernel_rfl) (fun _ _ _ h => h) rfl (fun wx hSw => by obtain ⟨hs1, hs2⟩ := hSw; go_simp) (by assumption) ?_
        simp only [Act.put, List.setIfInBounds_toArray, List.set_cons_succ, List.set_cons_zero]
        refine takeW 5 53 (.pointer (some ⟨w.heap.size, q, none⟩)) rfl rfl (by kernel_rfl) (by kernel_rfl) (by kernel_rfl) (fun _ _ _ h => h) rfl (fun wx hSw => by obtain ⟨hs1, hs2⟩ := hSw; go_simp) (by assumption) ?_
        simp only [Act.put, List.setIfInBounds_toArray, List.set_cons_succ, List.set_cons_zero]
        refine takeW 6 54 (.int .i64 z) rfl rfl (by kernel_rfl) (by kernel_rfl) (by kernel_rfl) (fun _ _ _ h => h) rfl (fun wx hSw => by obtain ⟨hs1, hs2⟩ := hSw; go_simp) (by assumption) ?_
        simp only [Act.put, List.setIfInBounds_toArray, List.set_cons_succ, List.set_cons_zero]
        refine takeW 7 55 (.slice (some ⟨w.heap.size, 0, none⟩) ps.length ps.length) rfl rfl (by kernel_rfl) (by kernel_rfl) (by kernel_rfl) (fun _ _ _ h => h) rfl (fun wx hSw => by obtain ⟨hs1, hs2⟩ := hSw; go_simp) (by assumption) ?_
        simp only [Act.put, List.setIfInBounds_toArray, List.set_cons_succ, List.set_cons_zero]
        refine takeW 8 56 (.pointer (some ⟨bx, 6, none⟩)) rfl rfl (by kernel_rfl) (by kernel_rfl) (by kernel_rfl) (fun _ _ _ h => h) rfl (fun wx hSw => by obtain ⟨hs1, hs2⟩ := hSw; go_simp) (by assumption) ?_
        simp only [Act.put, List.setIfInBounds_toArray, List.set_cons_succ, List.set_cons_zero]
        refine takeW 9 57 (.int .i64 (j : Int)) rfl rfl (by kernel_rfl) (by kernel_rfl) (by kernel_rfl) (fun _ _ _ h => h) rfl (fun wx hSw => by obtain ⟨hs1, hs2⟩ := hSw; go_simp) (by assumption) ?_
        simp only [Act.put, List.setIfInBounds_toArray, List.set_cons_succ, List.set_cons_zero]
        refine takeW 10 58 (.pointer (some ⟨w.heap.size, j, none⟩)) rfl rfl (by kernel_rfl) (by kernel_rfl) (by kernel_rfl) (fun _ _ _ h => h) rfl (fun wx hSw => by obtain ⟨hs1, hs2⟩ := hSw; go_simp) (by assumption) ?_
        simp only [Act.put, List.setIfInBounds_toArray, List.set_cons_succ, List.set_cons_zero]
        refine takeW 11 59 (.int .i64 y) rfl rfl (by kernel_rfl) (by kernel_rfl) (by kernel_rfl) (fun _ _ _ h => h) rfl (fun wx hSw => by obtain ⟨hs1, hs2⟩ := hSw; go_simp) (by assumption) ?_
        simp only [Act.put, List.setIfInBounds_toArray, List.set_cons_succ, List.set_cons_zero]
        refine takeW 12 60 (.int .i64 (z * y)) rfl rfl (by kernel_rfl) (by kernel_rfl) (by kernel_rfl) (fun _ _ _ h => h) rfl (fun wx hSw => by obtain ⟨hs1, hs2⟩ := hSw; go_simp) (by assumption) ?_
        simp only [Act.put, List.setIfInBounds_toArray, List.set_cons_succ, List.set_cons_zero]
        refine wpAnyH_ready (rs := [13]) (by kernel_rfl) (by simp) ?_
        refine AllReadyH.cons rfl (fun Kx hK => ?_) AllReadyH.nil
        go_simp
        refine (unhide HCap _).mono ?_
        rintro e Wx ⟨rfl, hWx⟩
        subst hWx
        refine hK.out _ _ (by assumption) (fun hHeld2 => ?_)
        clear hK Kx
        refine takeW 14 62 (.pointer (some ⟨w.heap.size, k, none⟩)) rfl rfl (by kernel_rfl) (by kernel_rfl) (by kernel_rfl) (fun _ _ _ h => h) rfl (fun wx hSw => by obtain ⟨hs1, hs2⟩ := hSw; go_simp) (by assumption) ?_
        simp only [Act.put, List.setIfInBounds_toArray, List.set_cons_succ, List.set_cons_zero]
        refine wpAnyH_ready (rs := [15]) (by kernel_rfl) (by simp) ?_
        refine AllReadyH.cons rfl (fun Kx hK => ?_) AllReadyH.nil
        go_simp
        refine hK.out _ _ ⟨?_, ?_, ?_, ?_⟩ (fun hHeld3 => ?_)
        · exact (setCell_farN (w := Wb) x1).trans n5
        · exact (setCell_farN (w := Wb) x1).trans n6
        · exact (setCell_otherN (w := Wb) x2).trans rqb
        · exact (setCell_otherN (w := Wb) x3).trans rjb
        clear hK Kx
        refine wpAnyH_done (by kernel_rfl) ?_ _
        have HRw2 := hide (((unhide HRB).set k (by omega) z2).of (Below.refl _ _).drew)
        have HB2 := hide (((unhide HBw).setCell (p := ⟨w.heap.size, k, none⟩) (Nat.le_refl _) (.int .i64 z2)).drew)
        clear HRB HBw
        go_wp2
        go_roundw
        case rel => exact ⟨k + 1, _, by omega, by go_num, unhide HNx, unhide HRw2, unhide HB2⟩
        case measure => simp [intOf]; omega
      · obtain ⟨hL0, hL1⟩ := (unhide HKid).1 (by decide)
        obtain ⟨q, rfl⟩ : ∃ q : Nat, L = (q : Int) := ⟨L.toNat, by omega⟩
        have hq : q < k := by omega
        have hv : siz ts ps k = siz ts ps q := by rw [unhide HSz]; simp
        have hqx := unhide HAt q hq
        have rq := (unhide HRow).at q (by omega)
        rw [hqx] at rq
        have hqn : (q : Int) < (ps.length : Int) := by omega
        have HNx := hide (unhide HSet _ hv)
        have HRw := hide (((unhide HRow).set k (by omega) (siz ts ps q)).of (bA (Below.refl _ _) (.cells #[.int .i64 7, .int .i64 T, .int .i64 M, .slice (some ⟨b3, 0, none⟩) Ex.length Ex.length, .slice (some ⟨b4, 0, none⟩) Exs.length Exs.length, .int .i64 (q : Int), .int .i64 R] 93)))
        clear HSz HSet HAt HRow HTab HU HKid hv hqx
        generalize siz ts ps q = z at *
        go_wp2
        go_roundw
        case rel => exact ⟨k + 1, _, by omega, by go_num, unhide HNx, unhide HRw, bA (hb.setCell (p := ⟨w.heap.size, k, none⟩) (Nat.le_refl _) _) _⟩
        case measure => simp [intOf]; omega
      · obtain ⟨hL0, hL1⟩ := (unhide HKid).1 (by decide)
        obtain ⟨q, rfl⟩ : ∃ q : Nat, L = (q : Int) := ⟨L.toNat, by omega⟩
        have hq : q < k := by omega
        have hv : siz ts ps k = siz ts ps q := by rw [unhide HSz]; simp
        have hqx := unhide HAt q hq
        have rq := (unhide HRow).at q (by omega)
        rw [hqx] at rq
        have hqn : (q : Int) < (ps.length : Int) := by omega
        have HNx := hide (unhide HSet _ hv)
        have HRw := hide (((unhide HRow).set k (by omega) (siz ts ps q)).of (bA (Below.refl _ _) (.cells #[.int .i64 8, .int .i64 T, .int .i64 M, .slice (some ⟨b3, 0, none⟩) Ex.length Ex.length, .slice (some ⟨b4, 0, none⟩) Exs.length Exs.length, .int .i64 (q : Int), .int .i64 R] 93)))
        clear HSz HSet HAt HRow HTab HU HKid hv hqx
        generalize siz ts ps q = z at *
        go_wp2
        go_roundw
        case rel => exact ⟨k + 1, _, by omega, by go_num, unhide HNx, unhide HRw, bA (hb.setCell (p := ⟨w.heap.size, k, none⟩) (Nat.le_refl _) _) _⟩
        case measure => simp [intOf]; omega
      · obtain ⟨hL0, hL1⟩ := (unhide HKid).1 (by decide)
        obtain ⟨q, rfl⟩ : ∃ q : Nat, L = (q : Int) := ⟨L.toNat, by omega⟩
        have hq : q < k := by omega
        have hv : siz ts ps k = siz ts ps q := by rw [unhide HSz]; simp
        have hqx := unhide HAt q hq
        have rq := (unhide HRow).at q (by omega)
        rw [hqx] at rq
        have hqn : (q : Int) < (ps.length : Int) := by omega
        have HNx := hide (unhide HSet _ hv)
        have HRw := hide (((unhide HRow).set k (by omega) (siz ts ps q)).of (bA (Below.refl _ _) (.cells #[.int .i64 9, .int .i64 T, .int .i64 M, .slice (some ⟨b3, 0, none⟩) Ex.length Ex.length, .slice (some ⟨b4, 0, none⟩) Exs.length Exs.length, .int .i64 (q : Int), .int .i64 R] 93)))
        clear HSz HSet HAt HRow HTab HU HKid hv hqx
        generalize siz ts ps q = z at *
        go_wp2
        go_roundw
        case rel => exact ⟨k + 1, _, by omega, by go_num, unhide HNx, unhide HRw, bA (hb.setCell (p := ⟨w.heap.size, k, none⟩) (Nat.le_refl _) _) _⟩
        case measure => simp [intOf]; omega
      · obtain ⟨hL0, hL1⟩ := (unhide HKid).1 (by decide)
        obtain ⟨hR0, hR1⟩ := (unhide HKid).2 (by decide)
        obtain ⟨q, rfl⟩ : ∃ q : Nat, L = (q : Int) := ⟨L.toNat, by omega⟩
        obtain ⟨j, rfl⟩ : ∃ j : Nat, R = (j : Int) := ⟨R.toNat, by omega⟩
        have hq : q < k := by omega
        have hj : j < k := by omega
        have hv : siz ts ps k = capW (siz ts ps q + siz ts ps j) := by rw [unhide HSz]; simp
        have hqx := unhide HAt q hq
        have rq := (unhide HRow).at q (by omega)
        rw [hqx] at rq
        have hjx := unhide HAt j hj
        have rj := (unhide HRow).at j (by omega)
        rw [hjx] at rj
        have hqn : (q : Int) < (ps.length : Int) := by omega
        have hjn : (j : Int) < (ps.length : Int) := by omega
        obtain ⟨hz10, hz11⟩ := siz_range ts ps (q + 1) q (by omega)
        obtain ⟨hy10, hy11⟩ := siz_range ts ps (j + 1) j (by omega)
        have HNx := hide (unhide HSet _ hv)
        have HRowW := HRow
        clear HSz HSet HAt HRow HTab HU HKid hv hqx hjx hL0 hL1 hR0 hR1
        generalize siz ts ps q = z at *
        generalize siz ts ps j = y at *
        have hm0 : 0 ≤ z * y := Int.mul_nonneg hz10 hy10
        have hm1 : z * y ≤ 2001 * 2001 := Int.mul_le_mul hz11 hy11 hy10 (by omega)
        have hwp : IntKind.i64.wrap (z + y) = z + y := wrap_small _ (by omega) (by omega)
        have HCap := hide (fun W => cutOff_calls (z + y) W)
        generalize capW (z + y) = z2 at *
        go_upto_region 15 with fail
        have hB0 := bA (Below.refl wr.heap.size wr) (.cells #[.int .i64 10, .int .i64 T, .int .i64 M, .slice (some ⟨b3, 0, none⟩) Ex.length Ex.length, .slice (some ⟨b4, 0, none⟩) Exs.length Exs.length, .int .i64 (q : Int), .int .i64 (j : Int)] 93)
        have n5 : (wr.alloc (.cells #[.int .i64 10, .int .i64 T, .int .i64 M, .slice (some ⟨b3, 0, none⟩) Ex.length Ex.length, .slice (some ⟨b4, 0, none⟩) Exs.length Exs.length, .int .i64 (q : Int), .int .i64 (j : Int)] 93)).cell? ⟨wr.heap.size, 5, none⟩ = some (.int .i64 (q : Int)) := by simp [go_sem]
        have n6 : (wr.alloc (.cells #[.int .i64 10, .int .i64 T, .int .i64 M, .slice (some ⟨b3, 0, none⟩) Ex.length Ex.length, .slice (some ⟨b4, 0, none⟩) Exs.length Exs.length, .int .i64 (q : Int), .int .i64 (j : Int)] 93)).cell? ⟨wr.heap.size, 6, none⟩ = some (.int .i64 (j : Int)) := by simp [go_sem]
        have hrB := (unhide HRowW).of hB0
        have rqb := (hB0.cell (p := ⟨w.heap.size, q, none⟩) q2).trans rq
        have rjb := (hB0.cell (p := ⟨w.heap.size, j, none⟩) q2).trans rj
        have rkb := hrB.at k (by omega)
        have rfb := hrB.frz
        have rsb := hrB.size
        have hsb : wr.heap.size < (wr.alloc (.cells #[.int .i64 10, .int .i64 T, .int .i64 M, .slice (some ⟨b3, 0, none⟩) Ex.length Ex.length, .slice (some ⟨b4, 0, none⟩) Exs.length Exs.length, .int .i64 (q : Int), .int .i64 (j : Int)] 93)).heap.size := by simp
        have HRB := hide hrB; have HBw := hide (bT hb hB0)
        have x1 : ¬ w.heap.size = wr.heap.size := by omega
        have x2 : ¬ k = q := by omega
        have x3 : ¬ k = j := by omega
        clear c0 c1 c2 c3 c4 c5 c6 rq rj r1 r2 hrB hB0 hb HRowW q1 q2 q3
        generalize (wr.alloc (.cells #[.int .i64 10, .int .i64 T, .int .i64 M, .slice (some ⟨b3, 0, none⟩) Ex.length Ex.length, .slice (some ⟨b4, 0, none⟩) Exs.length Exs.length, .int .i64 (q : Int), .int .i64 (j : Int)] 93)) = Wb at *
        generalize wr.heap.size = bx at *
        refine wp_region_held_drew (S := fun W => W.cell? ⟨bx, 5, none⟩ = some (.int .i64 (q : Int)) ∧ W.cell? ⟨bx, 6, none⟩ = some (.int .i64 (j : Int)) ∧ W.cell? ⟨w.heap.size, q, none⟩ = some (.int .i64 z) ∧ W.cell? ⟨w.heap.size, j, none⟩ = some (.int .i64 y)) (by kernel_rfl) ⟨n5, n6, rqb, rjb⟩ (fun hHeld => ?_)
        refine takeW 0 65 (.slice (some ⟨w.heap.size, 0, none⟩) ps.length ps.length) rfl rfl (by kernel_rfl) (by kernel_rfl) (by kernel_rfl) (fun _ _ _ h => h) rfl (fun wx hSw => by obtain ⟨hs1, hs2⟩ := hSw; go_simp) (by assumption) ?_
        simp only [Act.put, List.setIfInBounds_toArray, List.set_cons_succ, List.set_cons_zero]
        refine takeW 1 66 (.int .i64 (k : Int)) rfl rfl (by kernel_rfl) (by kernel_rfl) (by kernel_rfl) (fun _ _ _ h => h) rfl (fun wx hSw => by obtain ⟨hs1, hs2⟩ := hSw; go_simp) (by assumption) ?_
        simp only [Act.put, List.setIfInBounds_toArray, List.set_cons_succ, List.set_cons_zero]
        refine takeW 2 67 (.slice (some ⟨w.heap.size, 0, none⟩) ps.length ps.length) rfl rfl (by kernel_rfl) (by kernel_rfl) (by kernel_rfl) (fun _ _ _ h => h) rfl (fun wx hSw => by obtain ⟨hs1, hs2⟩ := hSw; go_simp) (by assumption) ?_
        simp only [Act.put, List.setIfInBounds_toArray, List.set_cons_succ, List.set_cons_zero]
        refine takeW 3 68 (.pointer (some ⟨bx, 5, none⟩)) rfl rfl (by kernel_rfl) (by kernel_rfl) (by kernel_rfl) (fun _ _ _ h => h) rfl (fun wx hSw => by obtain ⟨hs1, hs2⟩ := hSw; go_simp) (by assumption) ?_
        simp only [Act.put, List.setIfInBounds_toArray, List.set_cons_succ, List.set_cons_zero]
        refine takeW 4 69 (.int .i64 (q : Int)) rfl rfl (by kernel_rfl) (by kernel_rfl) (by kernel_rfl) (fun _ _ _ h => h) rfl (fun wx hSw => by obtain ⟨hs1, hs2⟩ := hSw; go_simp) (by assumption) ?_
        simp only [Act.put, List.setIfInBounds_toArray, List.set_cons_succ, List.set_cons_zero]
        refine takeW 5 70 (.pointer (some ⟨w.heap.size, q, none⟩)) rfl rfl (by kernel_rfl) (by kernel_rfl) (by kernel_rfl) (fun _ _ _ h => h) rfl (fun wx hSw => by obtain ⟨hs1, hs2⟩ := hSw; go_simp) (by assumption) ?_
        simp only [Act.put, List.setIfInBounds_toArray, List.set_cons_succ, List.set_cons_zero]
        refine takeW 6 71 (.int .i64 z) rfl rfl (by kernel_rfl) (by kernel_rfl) (by kernel_rfl) (fun _ _ _ h => h) rfl (fun wx hSw => by obtain ⟨hs1, hs2⟩ := hSw; go_simp) (by assumption) ?_
        simp only [Act.put, List.setIfInBounds_toArray, List.set_cons_succ, List.set_cons_zero]
        refine takeW 7 72 (.slice (some ⟨w.heap.size, 0, none⟩) ps.length ps.length) rfl rfl (by kernel_rfl) (by kernel_rfl) (by kernel_rfl) (fun _ _ _ h => h) rfl (fun wx hSw => by obtain ⟨hs1, hs2⟩ := hSw; go_simp) (by assumption) ?_
        simp only [Act.put, List.setIfInBounds_toArray, List.set_cons_succ, List.set_cons_zero]
        refine takeW 8 73 (.pointer (some ⟨bx, 6, none⟩)) rfl rfl (by kernel_rfl) (by kernel_rfl) (by kernel_rfl) (fun _ _ _ h => h) rfl (fun wx hSw => by obtain ⟨hs1, hs2⟩ := hSw; go_simp) (by assumption) ?_
        simp only [Act.put, List.setIfInBounds_toArray, List.set_cons_succ, List.set_cons_zero]
        refine takeW 9 74 (.int .i64 (j : Int)) rfl rfl (by kernel_rfl) (by kernel_rfl) (by kernel_rfl) (fun _ _ _ h => h) rfl (fun wx hSw => by obtain ⟨hs1, hs2⟩ := hSw; go_simp) (by assumption) ?_
        simp only [Act.put, List.setIfInBounds_toArray, List.set_cons_succ, List.set_cons_zero]
        refine takeW 10 75 (.pointer (some ⟨w.heap.size, j, none⟩)) rfl rfl (by kernel_rfl) (by kernel_rfl) (by kernel_rfl) (fun _ _ _ h => h) rfl (fun wx hSw => by obtain ⟨hs1, hs2⟩ := hSw; go_simp) (by assumption) ?_
        simp only [Act.put, List.setIfInBounds_toArray, List.set_cons_succ, List.set_cons_zero]
        refine takeW 11 76 (.int .i64 y) rfl rfl (by kernel_rfl) (by kernel_rfl) (by kernel_rfl) (fun _ _ _ h => h) rfl (fun wx hSw => by obtain ⟨hs1, hs2⟩ := hSw; go_simp) (by assumption) ?_
        simp only [Act.put, List.setIfInBounds_toArray, List.set_cons_succ, List.set_cons_zero]
        refine takeW 12 77 (.int .i64 (z + y)) rfl rfl (by kernel_rfl) (by kernel_rfl) (by kernel_rfl) (fun _ _ _ h => h) rfl (fun wx hSw => by obtain ⟨hs1, hs2⟩ := hSw; go_simp) (by assumption) ?_
        simp only [Act.put, List.setIfInBounds_toArray, List.set_cons_succ, List.set_cons_zero]
        refine wpAnyH_ready (rs := [13]) (by kernel_rfl) (by simp) ?_
        refine AllReadyH.cons rfl (fun Kx hK => ?_) AllReadyH.nil
        go_simp
        refine (unhide HCap _).mono ?_
        rintro e Wx ⟨rfl, hWx⟩
        subst hWx
        refine hK.out _ _ (by assumption) (fun hHeld2 => ?_)
        clear hK Kx
        refine takeW 14 79 (.pointer (some ⟨w.heap.size, k, none⟩)) rfl rfl (by kernel_rfl) (by kernel_rfl) (by kernel_rfl) (fun _ _ _ h => h) rfl (fun wx hSw => by obtain ⟨hs1, hs2⟩ := hSw; go_simp) (by assumption) ?_
        simp only [Act.put, List.setIfInBounds_toArray, List.set_cons_succ, List.set_cons_zero]
        refine wpAnyH_ready (rs := [15]) (by kernel_rfl) (by simp) ?_
        refine AllReadyH.cons rfl (fun Kx hK => ?_) AllReadyH.nil
        go_simp
        refine hK.out _ _ ⟨?_, ?_, ?_, ?_⟩ (fun hHeld3 => ?_)
        · exact (setCell_farN (w := Wb) x1).trans n5
        · exact (setCell_farN (w := Wb) x1).trans n6
        · exact (setCell_otherN (w := Wb) x2).trans rqb
        · exact (setCell_otherN (w := Wb) x3).trans rjb
        clear hK Kx
        refine wpAnyH_done (by kernel_rfl) ?_ _
        have HRw2 := hide (((unhide HRB).set k (by omega) z2).of (Below.refl _ _).drew)
        have HB2 := hide (((unhide HBw).setCell (p := ⟨w.heap.size, k, none⟩) (Nat.le_refl _) (.int .i64 z2)).drew)
        clear HRB HBw
        go_wp2
        go_roundw
        case rel => exact ⟨k + 1, _, by omega, by go_num, unhide HNx, unhide HRw2, unhide HB2⟩
        case measure => simp [intOf]; omega
    · obtain rfl : k = ps.length := by omega
      have HFn : Hid (FnRow wr w.heap.size ps.length (siz ts ps)) := ⟨xs, hto.1, hto.2, hrow⟩
      clear hto hrow
      go_wp2
      go_ret
      exact ⟨_, rfl, Nat.le_refl _, HFn.out, hb⟩
end Go.Proofs.YtkdeilhkobcglaaDoor
