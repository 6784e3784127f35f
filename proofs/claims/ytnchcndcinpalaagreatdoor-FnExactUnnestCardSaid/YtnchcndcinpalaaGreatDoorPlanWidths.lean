import Derived.Test.YtnchcndcinpalaaGreatDoorPlanOrder
import Derived.Deep.RegionHeld3
import Derived.Deep.DeepCutAuto
namespace Go.Proofs.YtnchcndcinpalaaGreatDoor
open Go Go.RowKit
def FnRow (w : World) (g n : Nat) (f : Nat → Int) : Prop := ∃ xs : List Int, xs.length = n ∧ (∀ j, j < n → xs.getD j 0 = f j) ∧ IntRow w g xs
theorem FnRow.of {w w1 : World} {g n : Nat} {f : Nat → Int} (h : FnRow w g n f) (hb : Below w.heap.size w w1) : FnRow w1 g n f := by
  obtain ⟨xs, h1, h2, h3⟩ := h
  exact ⟨xs, h1, h2, h3.of hb⟩
theorem FnRow.lt {w : World} {g n : Nat} {f : Nat → Int} (h : FnRow w g n f) : g < w.heap.size := by
  obtain ⟨xs, h1, h2, h3⟩ := h
  exact h3.size
theorem FnRow.at {w : World} {g n : Nat} {f : Nat → Int} (h : FnRow w g n f) (j : Nat) (hj : j < n) : w.cell? ⟨g, j, none⟩ = some (.int .i64 (f j)) := by
  obtain ⟨xs, h1, h2, h3⟩ := h
  rw [← h2 j hj]
  exact h3.at j (by omega)
def WTo (ts : List Tb) (ps : List Pn) (k : Nat) (xs : List Int) : Prop := xs.length = ps.length ∧ (∀ j, j < k → xs.getD j 0 = iw ts ps j) ∧ ∀ j, k ≤ j → xs.getD j 0 = 0
theorem WTo.set {ts : List Tb} {ps : List Pn} {k : Nat} {xs : List Int} (h : WTo ts ps k xs) (hk : k < ps.length) {v : Int} (hv : iw ts ps k = v) : WTo ts ps (k + 1) (xs.set k v) := by
  obtain ⟨h1, h2, h3⟩ := h
  refine ⟨by simp [h1], fun j hj => ?_, fun j hj => ?_⟩
  · rw [getD_set (by omega)]
    by_cases e : j = k
    · rw [if_pos e, e]; exact hv.symm
    · rw [if_neg e]; exact h2 j (by omega)
  · rw [getD_set (by omega), if_neg (by omega)]
    exact h3 j (by omega)
theorem WTo.skip {ts : List Tb} {ps : List Pn} {k : Nat} {xs : List Int} (h : WTo ts ps k xs) (hv : iw ts ps k = 0) : WTo ts ps (k + 1) xs := by
  obtain ⟨h1, h2, h3⟩ := h
  refine ⟨h1, fun j hj => ?_, fun j hj => h3 j (by omega)⟩
  by_cases e : j = k
  · subst e; rw [h3 j (Nat.le_refl _), hv]
  · exact h2 j (by omega)
theorem getD_replicate0 (n j : Nat) : (List.replicate n (0 : Int)).getD j 0 = 0 := by
  rw [List.getD_eq_getElem?_getD, List.getElem?_replicate]
  split <;> rfl
set_option maxRecDepth 100000 in
set_option maxHeartbeats 8000000 in
theorem planWidths_calls (ts : List Tb) (ps : List Pn) (g cap gt capt : Nat) (w : World) (hg : g < w.heap.size) (hn : PnsAt w g 0 ps) (hgt : gt < w.heap.size) (ht : TablesAt w gt 0 ts) (hG : Good ts ps) (h2000 : ps.length ≤ 2000)
    (hx : ∀ p ∈ ps, p.Exs.length ≤ 1048576) :
    Calls Tryz.prog 85 #[.slice (some ⟨g, 0, none⟩) ps.length cap, .slice (some ⟨gt, 0, none⟩) ts.length capt] w fun e w' => ∃ b, e = .returned (.slice (some ⟨b, 0, none⟩) ps.length ps.length) ∧ w.heap.size ≤ b ∧ FnRow w' b ps.length (iw ts ps) ∧ Below w.heap.size w w' := by
  have hmk := make_intsP ps.length (by omega)
  have hM : Hid (IntRow (w.alloc (.cells (madeCells #[.int .i64 0] ps.length) 3)) w.heap.size (List.replicate ps.length 0)) := IntRow.made w ps.length
  have hlt50 : ts.length ≤ 50 := hG.db.few
  have hbd : ∀ j, j < ps.length → 0 ≤ iw ts ps j ∧ iw ts ps j ≤ 4294967296 := fun j hj => by
    have h1 := hG.iw_le hx (j + 1) j (by omega) hj
    have h2 := frm_le (nds ps) j
    have h3 := hG.frm hj
    generalize Go.Proofs.YtnchcndcinpalaaGreatDoor.iw ts ps j = z at *
    generalize Go.Proofs.YtnchcndcinpalaaGreatDoor.frm (nds ps) j = f at *
    omega
  have HN := hide hn; have HG := hide hG; have HTt := hide ht; have HBd := hide hbd; have HX := hide hx
  clear hn hG ht hbd hx
  go_enter Tryz.func85, Tryz.ntmps85
  go_wp2
  go_loopw [13] (fun c wr => ∃ (k : Nat) (xs : List Int), k ≤ ps.length ∧ c = .int .i64 k ∧ WTo ts ps k xs ∧ IntRow wr w.heap.size xs ∧ Below w.heap.size w wr) (fun c _ => ps.length - (intOf c).toNat)
  case atStart => exact ⟨0, _, Nat.zero_le _, rfl, ⟨by simp, fun j hj => by omega, fun j _ => getD_replicate0 _ _⟩, hM.out, bA (Below.refl _ _) _⟩
  case round =>
    clear hM hmk
    obtain ⟨k, xs, hk, rfl, hto, hrow, hb⟩ := hrel
    by_cases hlt : k < ps.length
    · obtain ⟨c0, c1, c2, c5, c6, ⟨b3, c3, _⟩, b4, c4, _⟩ := ((unhide HN).of hg hb).at k hlt
      simp only [Nat.zero_add] at c0 c1 c2 c3 c4 c5 c6
      have hFk := (unhide HG).fld k hlt
      have hKid := (unhide HG).kids hlt
      have hiw := (unhide HG).iw hlt
      have hxe := unhide HX _ (List.getElem_mem hlt)
      have hset := fun v (hv : iw ts ps k = v) => hto.set hlt hv
      have hskip := fun (hv : iw ts ps k = 0) => hto.skip hv
      have hat := fun (j : Nat) (hj : j < k) => hto.2.1 j hj
      have hxl := hto.1
      have htab := fun (t : Nat) (ht : t < ts.length) => ((unhide HTt).of hgt hb).at t ht
      have hcl := fun (t : Nat) (ht : t < ts.length) => (unhide HG).db.each t ht
      have j1 : (k : Int) < (ps.length : Int) := by omega
      have q1 : g < wr.heap.size := Nat.lt_of_lt_of_le hg hb.size
      have q2 : w.heap.size < wr.heap.size := hrow.size
      have q3 : gt < wr.heap.size := Nat.lt_of_lt_of_le hgt hb.size
      cases e : ps[k] with | mk K T M Ex Exs L R =>
      rw [e] at c0 c1 c2 c3 c4 c5 c6 hFk hKid hiw hxe
      simp only at c0 c1 c2 c3 c4 c5 c6 hFk hKid hiw hxe
      have k1 : 1 ≤ K := hFk.1
      have k2 : K ≤ 10 := hFk.2.1
      have hU : usedP ts.length K T M Ex.length Exs.length := hFk.2.2.1
      have hc : K = 1 ∨ K = 2 ∨ K = 3 ∨ K = 4 ∨ K = 5 ∨ K = 6 ∨ K = 7 ∨ K = 8 ∨ K = 9 ∨ K = 10 := by omega
      have r1 := hrow.at k (by omega)
      have r2 := hrow.frz
      have HSet := hide hset; have HSkip := hide hskip; have HAt := hide hat; have HRow := hide hrow
      have HTab := hide htab; have HCl := hide hcl; have HU := hide hU; have HKid := hide hKid; have HIw := hide hiw
      clear hset hskip hat hrow htab hcl hU hFk e hto HN HTt HX hKid hiw
      rcases hc with rfl | rfl | rfl | rfl | rfl | rfl | rfl | rfl | rfl | rfl
      · have HNx := hide (unhide HSkip (by rw [unhide HIw]; rfl))
        have HRw := hide ((unhide HRow).of (bA (Below.refl wr.heap.size wr) (.cells #[.int .i64 1, .int .i64 T, .int .i64 M, .slice (some ⟨b3, 0, none⟩) Ex.length Ex.length, .slice (some ⟨b4, 0, none⟩) Exs.length Exs.length, .int .i64 L, .int .i64 R] 130)))
        clear HIw HSet HSkip HAt HRow HTab HCl HU HKid HBd HG
        go_wp2
        go_roundw
        case rel => exact ⟨k + 1, xs, by omega, by go_num, unhide HNx, unhide HRw, bA hb _⟩
        case measure => simp [intOf]; omega
      · obtain ⟨hT0, hT1⟩ := (unhide HU).2.1 rfl
        obtain ⟨t, rfl⟩ : ∃ t : Nat, T = (t : Int) := ⟨T.toNat, by omega⟩
        have htl : t < ts.length := by omega
        obtain ⟨_, d1, _⟩ := unhide HTab t htl
        simp only [Nat.zero_add] at d1
        have hv : iw ts ps k = (ts[t]).Cols := by
          rw [unhide HIw]
          simp [stepW, colsAt, htl]
        have HNx := hide (unhide HSet _ hv)
        have HRw := hide (((unhide HRow).set k (by omega) (ts[t]).Cols).of (bA (Below.refl _ _) (.cells #[.int .i64 2, .int .i64 (t : Int), .int .i64 M, .slice (some ⟨b3, 0, none⟩) Ex.length Ex.length, .slice (some ⟨b4, 0, none⟩) Exs.length Exs.length, .int .i64 L, .int .i64 R] 130)))
        clear HIw HSet HSkip HAt HRow HTab HCl HU HKid HBd HG hv
        generalize (ts[t]).Cols = C at *
        go_wp2
        go_roundw
        case rel => exact ⟨k + 1, _, by omega, by go_num, unhide HNx, unhide HRw, bA (hb.setCell (p := ⟨w.heap.size, k, none⟩) (Nat.le_refl _) _) _⟩
        case measure => simp [intOf]; omega
      · obtain ⟨hL0, hL1⟩ := (unhide HKid).1 (by decide)
        obtain ⟨q, rfl⟩ : ∃ q : Nat, L = (q : Int) := ⟨L.toNat, by omega⟩
        have hq : q < k := by omega
        have hv : iw ts ps k = iw ts ps q := by rw [unhide HIw]; simp [stepW, arity]
        have hqx := unhide HAt q hq
        have rq := (unhide HRow).at q (by omega)
        rw [hqx] at rq
        obtain ⟨hz0, hz1⟩ := unhide HBd q (by omega)
        have hqn : (q : Int) < (ps.length : Int) := by omega
        have HNx := hide (unhide HSet _ hv)
        have HRw := hide (((unhide HRow).set k (by omega) (iw ts ps q)).of (bA (Below.refl _ _) (.cells #[.int .i64 3, .int .i64 T, .int .i64 M, .slice (some ⟨b3, 0, none⟩) Ex.length Ex.length, .slice (some ⟨b4, 0, none⟩) Exs.length Exs.length, .int .i64 (q : Int), .int .i64 R] 130)))
        clear HIw HSet HSkip HAt HRow HTab HCl HU HKid HBd HG hv hqx
        generalize iw ts ps q = z at *
        go_wp2
        go_roundw
        case rel => exact ⟨k + 1, _, by omega, by go_num, unhide HNx, unhide HRw, bA (hb.setCell (p := ⟨w.heap.size, k, none⟩) (Nat.le_refl _) _) _⟩
        case measure => simp [intOf]; omega
      · have hv : iw ts ps k = (Exs.length : Int) := by rw [unhide HIw]; rfl
        have HNx := hide (unhide HSet _ hv)
        have HRw := hide (((unhide HRow).set k (by omega) (Exs.length : Int)).of (bA (Below.refl _ _) (.cells #[.int .i64 4, .int .i64 T, .int .i64 M, .slice (some ⟨b3, 0, none⟩) Ex.length Ex.length, .slice (some ⟨b4, 0, none⟩) Exs.length Exs.length, .int .i64 L, .int .i64 R] 130)))
        clear HIw HSet HSkip HAt HRow HTab HCl HU HKid HBd HG hv
        go_wp2
        go_roundw
        case rel => exact ⟨k + 1, _, by omega, by go_num, unhide HNx, unhide HRw, bA (hb.setCell (p := ⟨w.heap.size, k, none⟩) (Nat.le_refl _) _) _⟩
        case measure => simp [intOf]; omega
      · obtain ⟨hL0, hL1⟩ := (unhide HKid).1 (by decide)
        obtain ⟨hR0, hR1⟩ := (unhide HKid).2 (by decide)
        obtain ⟨q, rfl⟩ : ∃ q : Nat, L = (q : Int) := ⟨L.toNat, by omega⟩
        obtain ⟨j, rfl⟩ : ∃ j : Nat, R = (j : Int) := ⟨R.toNat, by omega⟩
        have hq : q < k := by omega
        have hj : j < k := by omega
        have hv : iw ts ps k = iw ts ps q + iw ts ps j := by rw [unhide HIw]; simp [stepW, arity]
        have hqx := unhide HAt q hq
        have rq := (unhide HRow).at q (by omega)
        rw [hqx] at rq
        have hjx := unhide HAt j hj
        have rj := (unhide HRow).at j (by omega)
        rw [hjx] at rj
        obtain ⟨hz0, hz1⟩ := unhide HBd q (by omega)
        obtain ⟨hy0, hy1⟩ := unhide HBd j (by omega)
        have hqn : (q : Int) < (ps.length : Int) := by omega
        have hjn : (j : Int) < (ps.length : Int) := by omega
        have HNx := hide (unhide HSet _ hv)
        have HRw := hide (((unhide HRow).set k (by omega) (iw ts ps q + iw ts ps j)).of (bA (Below.refl _ _) (.cells #[.int .i64 5, .int .i64 T, .int .i64 M, .slice (some ⟨b3, 0, none⟩) Ex.length Ex.length, .slice (some ⟨b4, 0, none⟩) Exs.length Exs.length, .int .i64 (q : Int), .int .i64 (j : Int)] 130)))
        clear HIw HSet HSkip HAt HRow HTab HCl HU HKid HBd HG hv hqx hjx
        generalize iw ts ps q = z at *
        generalize iw ts ps j = y at *
        go_upto_region 12 with fail
        go_region
        go_wp2
        go_roundw
        case rel => exact ⟨k + 1, _, by omega, by go_num, unhide HNx, (unhide HRw).of (Below.refl _ _).drew, (bA (hb.setCell (p := ⟨w.heap.size, k, none⟩) (Nat.le_refl _) _) _).drew⟩
        case measure => simp [intOf]; omega
      · obtain ⟨hL0, hL1⟩ := (unhide HKid).1 (by decide)
        obtain ⟨hR0, hR1⟩ := (unhide HKid).2 (by decide)
        obtain ⟨q, rfl⟩ : ∃ q : Nat, L = (q : Int) := ⟨L.toNat, by omega⟩
        obtain ⟨j, rfl⟩ : ∃ j : Nat, R = (j : Int) := ⟨R.toNat, by omega⟩
        have hq : q < k := by omega
        have hj : j < k := by omega
        have hv : iw ts ps k = iw ts ps q + iw ts ps j := by rw [unhide HIw]; simp [stepW, arity]
        have hqx := unhide HAt q hq
        have rq := (unhide HRow).at q (by omega)
        rw [hqx] at rq
        have hjx := unhide HAt j hj
        have rj := (unhide HRow).at j (by omega)
        rw [hjx] at rj
        obtain ⟨hz0, hz1⟩ := unhide HBd q (by omega)
        obtain ⟨hy0, hy1⟩ := unhide HBd j (by omega)
        have hqn : (q : Int) < (ps.length : Int) := by omega
        have hjn : (j : Int) < (ps.length : Int) := by omega
        have HNx := hide (unhide HSet _ hv)
        have HRw := hide (((unhide HRow).set k (by omega) (iw ts ps q + iw ts ps j)).of (bA (Below.refl _ _) (.cells #[.int .i64 6, .int .i64 T, .int .i64 M, .slice (some ⟨b3, 0, none⟩) Ex.length Ex.length, .slice (some ⟨b4, 0, none⟩) Exs.length Exs.length, .int .i64 (q : Int), .int .i64 (j : Int)] 130)))
        clear HIw HSet HSkip HAt HRow HTab HCl HU HKid HBd HG hv hqx hjx
        generalize iw ts ps q = z at *
        generalize iw ts ps j = y at *
        go_upto_region 12 with fail
        go_region
        go_wp2
        go_roundw
        case rel => exact ⟨k + 1, _, by omega, by go_num, unhide HNx, (unhide HRw).of (Below.refl _ _).drew, (bA (hb.setCell (p := ⟨w.heap.size, k, none⟩) (Nat.le_refl _) _) _).drew⟩
        case measure => simp [intOf]; omega
      · obtain ⟨hL0, hL1⟩ := (unhide HKid).1 (by decide)
        obtain ⟨q, rfl⟩ : ∃ q : Nat, L = (q : Int) := ⟨L.toNat, by omega⟩
        have hq : q < k := by omega
        have hv : iw ts ps k = iw ts ps q + 1 := by rw [unhide HIw]; simp [stepW, arity]
        have hqx := unhide HAt q hq
        have rq := (unhide HRow).at q (by omega)
        rw [hqx] at rq
        obtain ⟨hz0, hz1⟩ := unhide HBd q (by omega)
        have hqn : (q : Int) < (ps.length : Int) := by omega
        have HNx := hide (unhide HSet _ hv)
        have HRw := hide (((unhide HRow).set k (by omega) (iw ts ps q + 1)).of (bA (Below.refl _ _) (.cells #[.int .i64 7, .int .i64 T, .int .i64 M, .slice (some ⟨b3, 0, none⟩) Ex.length Ex.length, .slice (some ⟨b4, 0, none⟩) Exs.length Exs.length, .int .i64 (q : Int), .int .i64 R] 130)))
        clear HIw HSet HSkip HAt HRow HTab HCl HU HKid HBd HG hv hqx
        generalize iw ts ps q = z at *
        go_wp2
        go_roundw
        case rel => exact ⟨k + 1, _, by omega, by go_num, unhide HNx, unhide HRw, bA (hb.setCell (p := ⟨w.heap.size, k, none⟩) (Nat.le_refl _) _) _⟩
        case measure => simp [intOf]; omega
      · obtain ⟨hL0, hL1⟩ := (unhide HKid).1 (by decide)
        obtain ⟨q, rfl⟩ : ∃ q : Nat, L = (q : Int) := ⟨L.toNat, by omega⟩
        have hq : q < k := by omega
        have hv : iw ts ps k = iw ts ps q + 1 := by rw [unhide HIw]; simp [stepW, arity]
        have hqx := unhide HAt q hq
        have rq := (unhide HRow).at q (by omega)
        rw [hqx] at rq
        obtain ⟨hz0, hz1⟩ := unhide HBd q (by omega)
        have hqn : (q : Int) < (ps.length : Int) := by omega
        have HNx := hide (unhide HSet _ hv)
        have HRw := hide (((unhide HRow).set k (by omega) (iw ts ps q + 1)).of (bA (Below.refl _ _) (.cells #[.int .i64 8, .int .i64 T, .int .i64 M, .slice (some ⟨b3, 0, none⟩) Ex.length Ex.length, .slice (some ⟨b4, 0, none⟩) Exs.length Exs.length, .int .i64 (q : Int), .int .i64 R] 130)))
        clear HIw HSet HSkip HAt HRow HTab HCl HU HKid HBd HG hv hqx
        generalize iw ts ps q = z at *
        go_wp2
        go_roundw
        case rel => exact ⟨k + 1, _, by omega, by go_num, unhide HNx, unhide HRw, bA (hb.setCell (p := ⟨w.heap.size, k, none⟩) (Nat.le_refl _) _) _⟩
        case measure => simp [intOf]; omega
      · obtain ⟨hL0, hL1⟩ := (unhide HKid).1 (by decide)
        obtain ⟨q, rfl⟩ : ∃ q : Nat, L = (q : Int) := ⟨L.toNat, by omega⟩
        have hq : q < k := by omega
        have hv : iw ts ps k = iw ts ps q := by rw [unhide HIw]; simp [stepW, arity]
        have hqx := unhide HAt q hq
        have rq := (unhide HRow).at q (by omega)
        rw [hqx] at rq
        obtain ⟨hz0, hz1⟩ := unhide HBd q (by omega)
        have hqn : (q : Int) < (ps.length : Int) := by omega
        have HNx := hide (unhide HSet _ hv)
        have HRw := hide (((unhide HRow).set k (by omega) (iw ts ps q)).of (bA (Below.refl _ _) (.cells #[.int .i64 9, .int .i64 T, .int .i64 M, .slice (some ⟨b3, 0, none⟩) Ex.length Ex.length, .slice (some ⟨b4, 0, none⟩) Exs.length Exs.length, .int .i64 (q : Int), .int .i64 R] 130)))
        clear HIw HSet HSkip HAt HRow HTab HCl HU HKid HBd HG hv hqx
        generalize iw ts ps q = z at *
        go_wp2
        go_roundw
        case rel => exact ⟨k + 1, _, by omega, by go_num, unhide HNx, unhide HRw, bA (hb.setCell (p := ⟨w.heap.size, k, none⟩) (Nat.le_refl _) _) _⟩
        case measure => simp [intOf]; omega
      · obtain ⟨hL0, hL1⟩ := (unhide HKid).1 (by decide)
        obtain ⟨q, rfl⟩ : ∃ q : Nat, L = (q : Int) := ⟨L.toNat, by omega⟩
        have hq : q < k := by omega
        have hv : iw ts ps k = iw ts ps q := by rw [unhide HIw]; simp [stepW, arity]
        have hqx := unhide HAt q hq
        have rq := (unhide HRow).at q (by omega)
        rw [hqx] at rq
        obtain ⟨hz0, hz1⟩ := unhide HBd q (by omega)
        have hqn : (q : Int) < (ps.length : Int) := by omega
        have HNx := hide (unhide HSet _ hv)
        have HRw := hide (((unhide HRow).set k (by omega) (iw ts ps q)).of (bA (Below.refl _ _) (.cells #[.int .i64 10, .int .i64 T, .int .i64 M, .slice (some ⟨b3, 0, none⟩) Ex.length Ex.length, .slice (some ⟨b4, 0, none⟩) Exs.length Exs.length, .int .i64 (q : Int), .int .i64 R] 130)))
        clear HIw HSet HSkip HAt HRow HTab HCl HU HKid HBd HG hv hqx
        generalize iw ts ps q = z at *
        go_wp2
        go_roundw
        case rel => exact ⟨k + 1, _, by omega, by go_num, unhide HNx, unhide HRw, bA (hb.setCell (p := ⟨w.heap.size, k, none⟩) (Nat.le_refl _) _) _⟩
        case measure => simp [intOf]; omega
    · obtain rfl : k = ps.length := by omega
      have HFn : Hid (FnRow wr w.heap.size ps.length (iw ts ps)) := ⟨xs, hto.1, hto.2.1, hrow⟩
      clear hto hrow
      go_wp2
      go_ret
      exact ⟨_, rfl, Nat.le_refl _, HFn.out, hb⟩
end Go.Proofs.YtnchcndcinpalaaGreatDoor
