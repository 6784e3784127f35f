import Derived.Test.YtnchcndcinpalaaGreatDoorPlanOrder
import Derived.Deep.RegionHeld3
import Derived.Deep.DeepCutAuto
import Derived.Test.YtnchcndcinpalaaGreatDoorFlatSmall
import Derived.Test.YtnchcndcinpalaaGreatDoorQ20
/-
  THE WIDTHS OF A PLAN's NODES, from the leaves up.
-/
namespace Go.Proofs.YtnchcndcinpalaaGreatDoor
open Go Go.RowKit

/-- a row of ints that holds a function's values -/
def FnRow (w : World) (g n : Nat) (f : Nat → Int) : Prop := ∃ xs : List Int, xs.length = n ∧ (∀ j, j < n → xs.getD j 0 = f j) ∧ IntRow w g xs
theorem FnRow.of {w w1 : World} {g n : Nat} {f : Nat → Int} (h : FnRow w g n f) (hb : Below w.heap.size w w1) : FnRow w1 g n f := by
  obtain ⟨xs, h1, h2, h3⟩ := h
  exact ⟨xs, h1, h2, h3.of hb⟩
theorem FnRow.lt {w : World} {g n : Nat} {f : Nat → Int} (h : FnRow w g n f) : g < w.heap.size := by
  obtain ⟨xs, h1, h2, h3⟩ := h
  exact h3.size
theorem FnRow.at {w : World} {g n : Nat} {f : Nat → Int} (h : FnRow w g n f) (j : Nat) (hj : j < n) : w.cell? ⟨g, j, none⟩ = some (.int .i64 (f j)) := by
  obtain ⟨xs, h1, h2, h3⟩ := h
  rw [← h2 j hj]
  exact h3.at j (by omega)

/-- .. as far as place k; behind it nothing has been written -/
def WTo (ts : List Tb) (ps : List Pn) (k : Nat) (xs : List Int) : Prop := xs.length = ps.length ∧ (∀ j, j < k → xs.getD j 0 = iw ts ps j) ∧ ∀ j, k ≤ j → xs.getD j 0 = 0
theorem WTo.set {ts : List Tb} {ps : List Pn} {k : Nat} {xs : List Int} (h : WTo ts ps k xs) (hk : k < ps.length) {v : Int} (hv : iw ts ps k = v) : WTo ts ps (k + 1) (xs.set k v) := by
  obtain ⟨h1, h2, h3⟩ := h
  refine ⟨by simp [h1], fun j hj => ?_, fun j hj => ?_⟩
  · rw [getD_set (by omega)]
    by_cases e : j = k
    · rw [if_pos e, e]; exact hv.symm
    · rw [if_neg e]; exact h2 j (by omega)
  · rw [getD_set (by omega), if_neg (by omega)]
    exact h3 j (by omega)
theorem WTo.skip {ts : List Tb} {ps : List Pn} {k : Nat} {xs : List Int} (h : WTo ts ps k xs) (hv : iw ts ps k = 0) : WTo ts ps (k + 1) xs := by
  obtain ⟨h1, h2, h3⟩ := h
  refine ⟨h1, fun j hj => ?_, fun j hj => h3 j (by omega)⟩
  by_cases e : j = k
  · subst e; rw [h3 j (Nat.le_refl _), hv]
  · exact h2 j (by omega)
theorem getD_replicate0 (n j : Nat) : (List.replicate n (0 : Int)).getD j 0 = 0 := by
  rw [List.getD_eq_getElem?_getD, List.getElem?_replicate]
  split <;> rfl

set_option maxRecDepth 100000 in
set_option maxHeartbeats 8000000 in
theorem planWidths_calls (ts : List Tb) (ps : List Pn) (g cap gt capt : Nat) (w : World) (hg : g < w.heap.size) (hn : PnsAt w g 0 ps) (hgt : gt < w.heap.size) (ht : TablesAt w gt 0 ts) (hG : Good ts ps) (h2000 : ps.length ≤ 2000)
    (hx : ∀ p ∈ ps, p.Exs.length ≤ 1048576) :
    Calls Tryz.prog 85 #[.slice (some ⟨g, 0, none⟩) ps.length cap, .slice (some ⟨gt, 0, none⟩) ts.length capt] w fun e w' => ∃ b, e = .returned (.slice (some ⟨b, 0, none⟩) ps.length ps.length) ∧ w.heap.size ≤ b ∧ FnRow w' b ps.length (iw ts ps) ∧ Below w.heap.size w w' := by
  have hmk := make_intsP ps.length (by omega)
  have hM : Hid (IntRow (w.alloc (.cells (madeCells #[.int .i64 0] ps.length) 3)) w.heap.size (List.replicate ps.length 0)) := IntRow.made w ps.length
  have hlt50 : ts.length ≤ 50 := hG.db.few
  have hbd : ∀ j, j < ps.length → 0 ≤ iw ts ps j ∧ iw ts ps j ≤ 4294967296 := fun j hj => by
    have h1 := hG.iw_le hx (j + 1) j (by omega) hj
    have h2 := frm_le (nds ps) j
    have h3 := hG.frm hj
    generalize Go.Proofs.YtnchcndcinpalaaGreatDoor.iw ts ps j = z at *
    generalize Go.Proofs.YtnchcndcinpalaaGreatDoor.frm (nds ps) j = f at *
    omega
  have HN := hide hn; have HG := hide hG; have HTt := hide ht; have HBd := hide hbd; have HX := hide hx
  clear hn hG ht hbd hx
  go_enter Tryz.func85, Tryz.ntmps85
  go_wp2
  go_loopw [13] (fun c wr => ∃ (k : Nat) (xs : List Int), k ≤ ps.length ∧ c = .int .i64 k ∧ WTo ts ps k xs ∧ IntRow wr w.heap.size xs ∧ Below w.heap.size w wr) (fun c _ => ps.length - (intOf c).toNat)
  case atStart => exact ⟨0, _, Nat.zero_le _, rfl, ⟨by simp, fun j hj => by omega, fun j _ => getD_replicate0 _ _⟩, hM.out, bA (Below.refl _ _) _⟩
  case round =>
    clear hM hmk
    obtain ⟨k, xs, hk, rfl, hto, hrow, hb⟩ := hrel
    by_cases hlt : k < ps.length
    · obtain ⟨c0, c1, c2, c5, c6, ⟨b3, c3, _⟩, b4, c4, _⟩ := ((unhide HN).of hg hb).at k hlt
      simp only [Nat.zero_add] at c0 c1 c2 c3 c4 c5 c6
      have hFk := (unhide HG).fld k hlt
      have hKid := (unhide HG).kids hlt
      have hiw := (unhide HG).iw hlt
      have hxe := unhide HX _ (List.getElem_mem hlt)
      have hset := fun v (hv : iw ts ps k = v) => hto.set hlt hv
      have hskip := fun (hv : iw ts ps k = 0) => hto.skip hv
      have hat := fun (j : Nat) (hj : j < k) => hto.2.1 j hj
      have hxl := hto.1
      have htab := fun (t : Nat) (ht : t < ts.length) => ((unhide HTt).of hgt hb).at t ht
      have hcl := fun (t : Nat) (ht : t < ts.length) => (unhide HG).db.each t ht
      have j1 : (k : Int) < (ps.length : Int) := by omega
      have q1 : g < wr.heap.size := Nat.lt_of_lt_of_le hg hb.size
      have q2 : w.heap.size < wr.heap.size := hrow.size
      have q3 : gt < wr.heap.size := Nat.lt_of_lt_of_le hgt hb.size
      cases e : ps[k] with | mk K T M Ex Exs L R =>
      rw [e] at c0 c1 c2 c3 c4 c5 c6 hFk hKid hiw hxe
      simp only at c0 c1 c2 c3 c4 c5 c6 hFk hKid hiw hxe
      have k1 : 1 ≤ K := hFk.1
      have k2 : K ≤ 10 := hFk.2.1
      have hU : usedP ts.length K T M Ex.length Exs.length := hFk.2.2.1
      have hc : K = 1 ∨ K = 2 ∨ K = 3 ∨ K = 4 ∨ K = 5 ∨ K = 6 ∨ K = 7 ∨ K = 8 ∨ K = 9 ∨ K = 10 := by omega
      have r1 := hrow.at k (by omega)
      have r2 := hrow.frz
      have HSet := hide hset; have HSkip := hide hskip; have HAt := hide hat; have HRow := hide hrow
      have HTab := hide htab; have HCl := hide hcl; have HU := hide hU; have HKid := hide hKid; have HIw := hide hiw
      clear hset hskip hat hrow htab hcl hU hFk e hto HN HTt HX hKid hiw
      rcases hc with rfl | rfl | rfl | rfl | rfl | rfl | rfl | rfl | rfl | rfl
      · have HNx := hide (unhide HSkip (by rw [unhide HIw]; rfl))
        have HRw := hide ((unhide HRow).of (bA (Below.refl wr.heap.size wr) (.cells #[.int .i64 1, .int .i64 T, .int .i64 M, .slice (some ⟨b3, 0, none⟩) Ex.length Ex.length, .slice (some ⟨b4, 0, none⟩) Exs.length Exs.length, .int .i64 L, .int .i64 R] 130)))
        clear HIw HSet HSkip HAt HRow HTab HCl HU HKid HBd HG
        go_wp2
        go_roundw
        case rel => exact ⟨k + 1, xs, by omega, by go_num, unhide HNx, unhide HRw, bA hb _⟩
        case measure => simp [intOf]; omega
      · obtain ⟨hT0, hT1⟩ := (unhide HU).2.1 rfl
        obtain ⟨t, rfl⟩ : ∃ t : Nat, T = (t : Int) := ⟨T.toNat, by omega⟩
        have htl : t < ts.length := by omega
        obtain ⟨_, d1, _⟩ := unhide HTab t htl
        simp only [Nat.zero_add] at d1
        have hv : iw ts ps k = (ts[t]).Cols := by
          rw [unhide HIw]
          simp [stepW, colsAt, htl]
        have HNx := hide (unhide HSet _ hv)
        have HRw := hide (((unhide HRow).set k (by omega) (ts[t]).Cols).of (bA (Below.refl _ _) (.cells #[.int .i64 2, .int .i64 (t : Int), .int .i64 M, .slice (some ⟨b3, 0, none⟩) Ex.length Ex.length, .slice (some ⟨b4, 0, none⟩) Exs.length Exs.length, .int .i64 L, .int .i64 R] 130)))
        clear HIw HSet HSkip HAt HRow HTab HCl HU HKid HBd HG hv
        generalize (ts[t]).Cols = C at *
        go_wp2
        go_roundw
        case rel => exact ⟨k + 1, _, by omega, by go_num, unhide HNx, unhide HRw, bA (hb.setCell (p := ⟨w.heap.size, k, none⟩) (Nat.le_refl _) _) _⟩
        case measure => simp [intOf]; omega
      · obtain ⟨hL0, hL1⟩ := (unhide HKid).1 (by decide)
        obtain ⟨q, rfl⟩ : ∃ q : Nat, L = (q : Int) := ⟨L.toNat, by omega⟩
        have hq : q < k := by omega
        have hv : iw ts ps k = iw ts ps q := by rw [unhide HIw]; simp [stepW, arity]
        have hqx := unhide HAt q hq
        have rq := (unhide HRow).at q (by omega)
        rw [hqx] at rq
        obtain ⟨hz0, hz1⟩ := unhide HBd q (by omega)
        have hqn : (q : Int) < (ps.length : Int) := by omega
        have HNx := hide (unhide HSet _ hv)
        have HRw := hide (((unhide HRow).set k (by omega) (iw ts ps q)).of (bA (Below.refl _ _) (.cells #[.int .i64 3, .int .i64 T, .int .i64 M, .slice (some ⟨b3, 0, none⟩) Ex.length Ex.length, .slice (some ⟨b4, 0, none⟩) Exs.length Exs.length, .int .i64 (q : Int), .int .i64 R] 130)))
        clear HIw HSet HSkip HAt HRow HTab HCl HU HKid HBd HG hv hqx
        generalize iw ts ps q = z at *
        go_wp2
        go_roundw
        case rel => exact ⟨k + 1, _, by omega, by go_num, unhide HNx, unhide HRw, bA (hb.setCell (p := ⟨w.heap.size, k, none⟩) (Nat.le_refl _) _) _⟩
        case measure => simp [intOf]; omega
      · have hv : iw ts ps k = (Exs.length : Int) := by rw [unhide HIw]; rfl
        have HNx := hide (unhide HSet _ hv)
        have HRw := hide (((unhide HRow).set k (by omega) (Exs.length : Int)).of (bA (Below.refl _ _) (.cells #[.int .i64 4, .int .i64 T, .int .i64 M, .slice (some ⟨b3, 0, none⟩) Ex.length Ex.length, .slice (some ⟨b4, 0, none⟩) Exs.length Exs.length, .int .i64 L, .int .i64 R] 130)))
        clear HIw HSet HSkip HAt HRow HTab HCl HU HKid HBd HG hv
        go_wp2
        go_roundw
        case rel => exact ⟨k + 1, _, by omega, by go_num, unhide HNx, unhide HRw, bA (hb.setCell (p := ⟨w.heap.size, k, none⟩) (Nat.le_refl _) _) _⟩
        case measure => simp [intOf]; omega
      · obtain ⟨hL0, hL1⟩ := (unhide HKid).1 (by decide)
        obtain ⟨hR0, hR1⟩ := (unhide HKid).2 (by decide)
        obtain ⟨q, rfl⟩ : ∃ q : Nat, L = (q : Int) := ⟨L.toNat, by omega⟩
        obtain ⟨j, rfl⟩ : ∃ j : Nat, R = (j : Int) := ⟨R.toNat, by omega⟩
        have hq : q < k := by omega
        have hj : j < k := by omega
        have hv : iw ts ps k = iw ts ps q + iw ts ps j := by rw [unhide HIw]; simp [stepW, arity]
        have hqx := unhide HAt q hq
        have rq := (unhide HRow).at q (by omega)
        rw [hqx] at rq
        have hjx := unhide HAt j hj
        have rj := (unhide HRow).at j (by omega)
        rw [hjx] at rj
        obtain ⟨hz0, hz1⟩ := unhide HBd q (by omega)
        obtain ⟨hy0, hy1⟩ := unhide HBd j (by omega)
        have hqn : (q : Int) < (ps.length : Int) := by omega
        have hjn : (j : Int) < (ps.length : Int) := by omega
        have HNx := hide (unhide HSet _ hv)
        have HRw := hide (((unhide HRow).set k (by omega) (iw ts ps q + iw ts ps j)).of (bA (Below.refl _ _) (.cells #[.int .i64 5, .int .i64 T, .int .i64 M, .slice (some ⟨b3, 0, none⟩) Ex.length Ex.length, .slice (some ⟨b4, 0, none⟩) Exs.length Exs.length, .int .i64 (q : Int), .int .i64 (j : Int)] 130)))
        clear HIw HSet HSkip HAt HRow HTab HCl HU HKid HBd HG hv hqx hjx
        generalize iw ts ps q = z at *
        generalize iw ts ps j = y at *
        go_upto_region 12 with fail
        go_region
        go_wp2
        go_roundw
        case rel => exact ⟨k + 1, _, by omega, by go_num, unhide HNx, (unhide HRw).of (Below.refl _ _).drew, (bA (hb.setCell (p := ⟨w.heap.size, k, none⟩) (Nat.le_refl _) _) _).drew⟩
        case measure => simp [intOf]; omega
      · obtain ⟨hL0, hL1⟩ := (unhide HKid).1 (by decide)
        obtain ⟨hR0, hR1⟩ := (unhide HKid).2 (by decide)
        obtain ⟨q, rfl⟩ : ∃ q : Nat, L = (q : Int) := ⟨L.toNat, by omega⟩
        obtain ⟨j, rfl⟩ : ∃ j : Nat, R = (j : Int) := ⟨R.toNat, by omega⟩
        have hq : q < k := by omega
        have hj : j < k := by omega
        have hv : iw ts ps k = iw ts ps q + iw ts ps j := by rw [unhide HIw]; simp [stepW, arity]
        have hqx := unhide HAt q hq
        have rq := (unhide HRow).at q (by omega)
        rw [hqx] at rq
        have hjx := unhide HAt j hj
        have rj := (unhide HRow).at j (by omega)
        rw [hjx] at rj
        obtain ⟨hz0, hz1⟩ := unhide HBd q (by omega)
        obtain ⟨hy0, hy1⟩ := unhide HBd j (by omega)
        have hqn : (q : Int) < (ps.length : Int) := by omega
        have hjn : (j : Int) < (ps.length : Int) := by omega
        have HNx := hide (unhide HSet _ hv)
        have HRw := hide (((unhide HRow).set k (by omega) (iw ts ps q + iw ts ps j)).of (bA (Below.refl _ _) (.cells #[.int .i64 6, .int .i64 T, .int .i64 M, .slice (some ⟨b3, 0, none⟩) Ex.length Ex.length, .slice (some ⟨b4, 0, none⟩) Exs.length Exs.length, .int .i64 (q : Int), .int .i64 (j : Int)] 130)))
        clear HIw HSet HSkip HAt HRow HTab HCl HU HKid HBd HG hv hqx hjx
        generalize iw ts ps q = z at *
        generalize iw ts ps j = y at *
        go_upto_region 12 with fail
        go_region
        go_wp2
        go_roundw
        case rel => exact ⟨k + 1, _, by omega, by go_num, unhide HNx, (unhide HRw).of (Below.refl _ _).drew, (bA (hb.setCell (p := ⟨w.heap.size, k, none⟩) (Nat.le_refl _) _) _).drew⟩
        case measure => simp [intOf]; omega
      · obtain ⟨hL0, hL1⟩ := (unhide HKid).1 (by decide)
        obtain ⟨q, rfl⟩ : ∃ q : Nat, L = (q : Int) := ⟨L.toNat, by omega⟩
        have hq : q < k := by omega
        have hv : iw ts ps k = iw ts ps q + 1 := by rw [unhide HIw]; simp [stepW, arity]
        have hqx := unhide HAt q hq
        have rq := (unhide HRow).at q (by omega)
        rw [hqx] at rq
        obtain ⟨hz0, hz1⟩ := unhide HBd q (by omega)
        have hqn : (q : Int) < (ps.length : Int) := by omega
        have HNx := hide (unhide HSet _ hv)
        have HRw := hide (((unhide HRow).set k (by omega) (iw ts ps q + 1)).of (bA (Below.refl _ _) (.cells #[.int .i64 7, .int .i64 T, .int .i64 M, .slice (some ⟨b3, 0, none⟩) Ex.length Ex.length, .slice (some ⟨b4, 0, none⟩) Exs.length Exs.length, .int .i64 (q : Int), .int .i64 R] 130)))
        clear HIw HSet HSkip HAt HRow HTab HCl HU HKid HBd HG hv hqx
        generalize iw ts ps q = z at *
        go_wp2
        go_roundw
        case rel => exact ⟨k + 1, _, by omega, by go_num, unhide HNx, unhide HRw, bA (hb.setCell (p := ⟨w.heap.size, k, none⟩) (Nat.le_refl _) _) _⟩
        case measure => simp [intOf]; omega
      · obtain ⟨hL0, hL1⟩ := (unhide HKid).1 (by decide)
        obtain ⟨q, rfl⟩ : ∃ q : Nat, L = (q : Int) := ⟨L.toNat, by omega⟩
        have hq : q < k := by omega
        have hv : iw ts ps k = iw ts ps q + 1 := by rw [unhide HIw]; simp [stepW, arity]
        have hqx := unhide HAt q hq
        have rq := (unhide HRow).at q (by omega)
        rw [hqx] at rq
        obtain ⟨hz0, hz1⟩ := unhide HBd q (by omega)
        have hqn : (q : Int) < (ps.length : Int) := by omega
        have HNx := hide (unhide HSet _ hv)
        have HRw := hide (((unhide HRow).set k (by omega) (iw ts ps q + 1)).of (bA (Below.refl _ _) (.cells #[.int .i64 8, .int .i64 T, .int .i64 M, .slice (some ⟨b3, 0, none⟩) Ex.length Ex.length, .slice (some ⟨b4, 0, none⟩) Exs.length Exs.length, .int .i64 (q : Int), .int .i64 R] 130)))
        clear HIw HSet HSkip HAt HRow HTab HCl HU HKid HBd HG hv hqx
        generalize iw ts ps q = z at *
        go_wp2
        go_roundw
        case rel => exact ⟨k + 1, _, by omega, by go_num, unhide HNx, unhide HRw, bA (hb.setCell (p := ⟨w.heap.size, k, none⟩) (Nat.le_refl _) _) _⟩
        case measure => simp [intOf]; omega
      · obtain ⟨hL0, hL1⟩ := (unhide HKid).1 (by decide)
        obtain ⟨q, rfl⟩ : ∃ q : Nat, L = (q : Int) := ⟨L.toNat, by omega⟩
        have hq : q < k := by omega
        have hv : iw ts ps k = iw ts ps q := by rw [unhide HIw]; simp [stepW, arity]
        have hqx := unhide HAt q hq
        have rq := (unhide HRow).at q (by omega)
        rw [hqx] at rq
        obtain ⟨hz0, hz1⟩ := unhide HBd q (by omega)
        have hqn : (q : Int) < (ps.length : Int) := by omega
        have HNx := hide (unhide HSet _ hv)
        have HRw := hide (((unhide HRow).set k (by omega) (iw ts ps q)).of (bA (Below.refl _ _) (.cells #[.int .i64 9, .int .i64 T, .int .i64 M, .slice (some ⟨b3, 0, none⟩) Ex.length Ex.length, .slice (some ⟨b4, 0, none⟩) Exs.length Exs.length, .int .i64 (q : Int), .int .i64 R] 130)))
        clear HIw HSet HSkip HAt HRow HTab HCl HU HKid HBd HG hv hqx
        generalize iw ts ps q = z at *
        go_wp2
        go_roundw
        case rel => exact ⟨k + 1, _, by omega, by go_num, unhide HNx, unhide HRw, bA (hb.setCell (p := ⟨w.heap.size, k, none⟩) (Nat.le_refl _) _) _⟩
        case measure => simp [intOf]; omega
      · obtain ⟨hL0, hL1⟩ := (unhide HKid).1 (by decide)
        obtain ⟨q, rfl⟩ : ∃ q : Nat, L = (q : Int) := ⟨L.toNat, by omega⟩
        have hq : q < k := by omega
        have hv : iw ts ps k = iw ts ps q := by rw [unhide HIw]; simp [stepW, arity]
        have hqx := unhide HAt q hq
        have rq := (unhide HRow).at q (by omega)
        rw [hqx] at rq
        obtain ⟨hz0, hz1⟩ := unhide HBd q (by omega)
        have hqn : (q : Int) < (ps.length : Int) := by omega
        have HNx := hide (unhide HSet _ hv)
        have HRw := hide (((unhide HRow).set k (by omega) (iw ts ps q)).of (bA (Below.refl _ _) (.cells #[.int .i64 10, .int .i64 T, .int .i64 M, .slice (some ⟨b3, 0, none⟩) Ex.length Ex.length, .slice (some ⟨b4, 0, none⟩) Exs.length Exs.length, .int .i64 (q : Int), .int .i64 R] 130)))
        clear HIw HSet HSkip HAt HRow HTab HCl HU HKid HBd HG hv hqx
        generalize iw ts ps q = z at *
        go_wp2
        go_roundw
        case rel => exact ⟨k + 1, _, by omega, by go_num, unhide HNx, unhide HRw, bA (hb.setCell (p := ⟨w.heap.size, k, none⟩) (Nat.le_refl _) _) _⟩
        case measure => simp [intOf]; omega
    · obtain rfl : k = ps.length := by omega
      have HFn : Hid (FnRow wr w.heap.size ps.length (iw ts ps)) := ⟨xs, hto.1, hto.2.1, hrow⟩
      clear hto hrow
      go_wp2
      go_ret
      exact ⟨_, rfl, Nat.le_refl _, HFn.out, hb⟩
end Go.Proofs.YtnchcndcinpalaaGreatDoor
/-
  HOW OFTEN EACH NODE IS USED, as the program counts it.
-/
namespace Go.Proofs.YtnchcndcinpalaaGreatDoor
open Go Go.RowKit

open Classical in
noncomputable def kidsL (p : Fn) : List Int := if twoK p.K then [p.R, p.L] else if oneK p.K then [p.L] else []
def bump (xs : List Int) (i : Int) : List Int := xs.set i.toNat (xs.getD i.toNat 0 + 1)
theorem bump_length (xs : List Int) (i : Int) : (bump xs i).length = xs.length := by simp [bump]
theorem bump_le {xs : List Int} {m : Int} (h : ∀ j, 0 ≤ xs.getD j 0 ∧ xs.getD j 0 ≤ m) (i : Int) : ∀ j, 0 ≤ (bump xs i).getD j 0 ∧ (bump xs i).getD j 0 ≤ m + 1 := fun j => by
  have h1 := h j
  have h2 := h i.toNat
  have hm : 0 ≤ m := by omega
  unfold bump
  rw [List.getD_eq_getElem?_getD] at h1 h2
  rw [List.getD_eq_getElem?_getD, List.getElem?_set, List.getD_eq_getElem?_getD]
  split
  · split
    · simp only [Option.getD_some]; omega
    · simp only [Option.getD_none]; omega
  · omega
noncomputable def asksRow (fs : List Fn) (k : Nat) : List Int := (fs.take k).foldl (fun xs p => (kidsL p).foldl bump xs) (List.replicate fs.length 0)
theorem asksRow_zero (fs : List Fn) : asksRow fs 0 = List.replicate fs.length 0 := rfl
theorem asksRow_succ (fs : List Fn) (k : Nat) (hk : k < fs.length) : asksRow fs (k + 1) = (kidsL fs[k]).foldl bump (asksRow fs k) := by
  unfold asksRow
  rw [take_snocN fs k hk, List.foldl_append]
  rfl

set_option maxHeartbeats 4000000 in
theorem flatKids_all (K T M Wd L R : Int) (Ex : List O2) (Exs : List (List O2)) (v3 v4 : Value) (w : World) (h1 : 1 ≤ K) (h2 : K ≤ 11) (hT : TFlat w) :
    Calls Tryz.prog 67 #[.agg #[.int .i64 K, .int .i64 T, .int .i64 M, .int .i64 Wd, v3, v4, .int .i64 L, .int .i64 R]] w fun e w' => ∃ (b n : Nat) (a : Option Addr), e = .returned (.slice a n n) ∧ n = (kidsL ⟨K, T, M, Wd, Ex, Exs, L, R⟩).length ∧ n ≤ 2 ∧ (0 < n → a = some ⟨b, 0, none⟩ ∧ b < w'.heap.size) ∧ w.heap.size ≤ b ∧ (∀ (i : Nat) (x : Int), (kidsL ⟨K, T, M, Wd, Ex, Exs, L, R⟩)[i]? = some x → w'.cell? ⟨b, i, none⟩ = some (.int .i64 x)) ∧ Below w.heap.size w w' := by
  by_cases ht : twoK K
  · have hk : kidsL ⟨K, T, M, Wd, Ex, Exs, L, R⟩ = [R, L] := by simp [kidsL, ht]
    rw [hk]
    refine (flatKids_two K T M Wd L R v3 v4 w h1 h2 ht hT).mono ?_; rintro e w' ⟨b, rfl, hb, hb', c0, c1, hw⟩
    refine ⟨b, 2, _, rfl, rfl, Nat.le_refl _, fun _ => ⟨rfl, hb'⟩, hb, fun i x hx => ?_, hw⟩
    match i, hx with
    | 0, hx => simp at hx; subst hx; exact c0
    | 1, hx => simp at hx; subst hx; exact c1
    | _ + 2, hx => simp at hx
  · by_cases ho : oneK K
    · have hk : kidsL ⟨K, T, M, Wd, Ex, Exs, L, R⟩ = [L] := by simp [kidsL, ht, ho]
      rw [hk]
      refine (flatKids_one K T M Wd L R v3 v4 w h1 h2 ⟨ho, ht⟩ hT).mono ?_; rintro e w' ⟨b, rfl, hb, hb', c0, hw⟩
      refine ⟨b, 1, _, rfl, rfl, by omega, fun _ => ⟨rfl, hb'⟩, hb, fun i x hx => ?_, hw⟩
      match i, hx with
      | 0, hx => simp at hx; subst hx; exact c0
      | _ + 1, hx => simp at hx
    · have hk : kidsL ⟨K, T, M, Wd, Ex, Exs, L, R⟩ = [] := by simp [kidsL, ht, ho]
      rw [hk]
      refine (flatKids_none K T M Wd L R v3 v4 w h1 h2 ho hT).mono ?_; rintro e w' ⟨rfl, hw⟩
      exact ⟨w.heap.size, 0, _, rfl, rfl, by omega, fun h => by omega, Nat.le_refl _, fun i x hx => by simp at hx, hw⟩

set_option maxRecDepth 100000 in
set_option maxHeartbeats 8000000 in
theorem asksOf_calls (ts : List Tb) (fs : List Fn) (Rt : Int) (g cap : Nat) (w : World) (few : fs.length ≤ 8000) (hok : OkTo ts fs fs.length) (r0 : 0 ≤ Rt) (r1 : Rt < (fs.length : Int)) (hg : g < w.heap.size) (hn : FnsAt w g 0 fs) (hT : TFlat w) :
    Calls Tryz.prog 34 #[.agg #[.slice (some ⟨g, 0, none⟩) fs.length cap, .int .i64 Rt]] w fun e w' => ∃ b, e = .returned (.slice (some ⟨b, 0, none⟩) fs.length fs.length) ∧ w.heap.size ≤ b ∧ IntRow w' b (bump (asksRow fs fs.length) Rt) ∧ Below w.heap.size w w' := by
  have hmk := make_intsP fs.length (by omega)
  have hM : Hid (IntRow (((w.alloc (.cells #[.slice (some ⟨g, 0, none⟩) fs.length cap, .int .i64 Rt] 32))).alloc (.cells (madeCells #[.int .i64 0] fs.length) 3)) (w.heap.size + 1) (List.replicate fs.length 0)) := by
    have h := IntRow.made (w.alloc (.cells #[.slice (some ⟨g, 0, none⟩) fs.length cap, .int .i64 Rt] 32)) fs.length
    rw [show (w.alloc (.cells #[.slice (some ⟨g, 0, none⟩) fs.length cap, .int .i64 Rt] 32)).heap.size = w.heap.size + 1 by simp] at h
    exact h
  have HN := hide hn; have HOk := hide hok
  clear hn hok
  go_enter Tryz.func34, Tryz.ntmps34
  go_wp2
  go_loopw [15] (fun c wr => ∃ (k : Nat) (xs : List Int), k ≤ fs.length ∧ c = .int .i64 k ∧ xs = asksRow fs k ∧ xs.length = fs.length ∧ (∀ j, 0 ≤ xs.getD j 0 ∧ xs.getD j 0 ≤ 2 * (k : Int)) ∧ IntRow wr (w.heap.size + 1) xs ∧ wr.cell? ⟨w.heap.size, 0, none⟩ = some (.slice (some ⟨g, 0, none⟩) fs.length cap) ∧ wr.cell? ⟨w.heap.size, 1, none⟩ = some (.int .i64 Rt) ∧ w.heap.size + 2 ≤ wr.heap.size ∧ Below w.heap.size w wr) (fun c _ => fs.length - (intOf c).toNat)
  case atStart => exact ⟨0, _, Nat.zero_le _, rfl, (asksRow_zero fs).symm, by simp, fun j => by rw [getD_replicate0]; omega, hM.out, by simp [go_sem], by simp [go_sem], by simp, bA (bA (Below.refl _ _) _) _⟩
  case round =>
    rename World => wo
    clear hM hmk
    obtain ⟨k, xs, hk, rfl, hxs, hxl, hxb, hrow, k0, k1, hsz, hb⟩ := hrel
    have q1 : g < wo.heap.size := Nat.lt_of_lt_of_le hg hb.size
    have qs : w.heap.size < wo.heap.size := by omega
    have HXs := hide hxs
    clear hxs
    by_cases hlt : k < fs.length
    · obtain ⟨x0, x1, x2, x3, x6, x7, ⟨bx, x4, _, hbx, hox⟩, dx, x5, _, hdx, hpx⟩ := ((unhide HN).of hg hb).at k hlt
      simp only [Nat.zero_add] at x0 x1 x2 x3 x4 x5 x6 x7
      have j1 : (k : Int) < (fs.length : Int) := by omega
      have hNd := (unhide HOk k hlt hlt).fld
      have HSu := hide (asksRow_succ fs k hlt)
      clear hox hpx
      generalize e : fs[k] = pk at *
      clear e
      obtain ⟨K, T, M, Wd, Ex, Exs, L, R⟩ := pk
      obtain ⟨kk1, kk2, -, -, -, -, hLb, -, hRb, -⟩ := hNd
      simp only at x0 x1 x2 x3 x4 x5 x6 x7 kk1 kk2 hLb hRb
      have HIn : Hid (∀ x ∈ kidsL ⟨K, T, M, Wd, Ex, Exs, L, R⟩, 0 ≤ x ∧ x < (fs.length : Int)) := fun x hx => by
        unfold kidsL at hx
        simp only at hx
        split at hx
        · have h2 := hRb (by assumption)
          have h1 := hLb (by unfold oneK; unfold twoK at *; omega)
          simp at hx
          rcases hx with rfl | rfl <;> omega
        · split at hx
          · have h1 := hLb (by assumption)
            simp at hx
            subst hx
            omega
          · simp at hx
      clear hLb hRb
      have HKd := hide (fun W (hbW : Below w.heap.size w W) => flatKids_all K T M Wd L R Ex Exs (.slice (some ⟨bx, 0, none⟩) Ex.length Ex.length) (.slice (some ⟨dx, 0, none⟩) Exs.length Exs.length) W kk1 kk2 (hT.of hbW))
      generalize kidsL ⟨K, T, M, Wd, Ex, Exs, L, R⟩ = ks at *
      have HX := hide (bA (Below.refl wo.heap.size wo) (.cells #[.int .i64 K, .int .i64 T, .int .i64 M, .int .i64 Wd, .slice (some ⟨bx, 0, none⟩) Ex.length Ex.length, .slice (some ⟨dx, 0, none⟩) Exs.length Exs.length, .int .i64 L, .int .i64 R] 67))
      go_wp2_with fail
      refine (unhide HKd _ (bT hb (unhide HX))).mono ?_; rintro e w3 ⟨b, n, a, rfl, hnl, hn2, hna, hbb, hcell, hb3⟩
      have d3 := bT (unhide HX) hb3
      have hrow3 := hrow.of d3
      have z0 := (d3.cell (p := ⟨w.heap.size, 0, none⟩) qs).trans k0
      have z1 := (d3.cell (p := ⟨w.heap.size, 1, none⟩) qs).trans k1
      have hs3 := d3.size
      have hbB : wo.heap.size ≤ b := by have h := hbb; simp at h; omega
      have HNl := hide hnl; have HCell := hide hcell
      clear x0 x1 x2 x3 x4 x5 x6 x7 HKd HX hb3 hbb hcell hnl
      go_wp2
      go_loopw [22] (fun c wr => ∃ (j : Nat) (ys : List Int), j ≤ n ∧ c = .int .i64 j ∧ ys = (ks.take j).foldl bump xs ∧ ys.length = fs.length ∧ (∀ i, 0 ≤ ys.getD i 0 ∧ ys.getD i 0 ≤ 2 * (k : Int) + (j : Int)) ∧ IntRow wr (w.heap.size + 1) ys ∧ wr.cell? ⟨w.heap.size, 0, none⟩ = some (.slice (some ⟨g, 0, none⟩) fs.length cap) ∧ wr.cell? ⟨w.heap.size, 1, none⟩ = some (.int .i64 Rt) ∧ (∀ (i : Nat) (x : Int), ks[i]? = some x → wr.cell? ⟨b, i, none⟩ = some (.int .i64 x)) ∧ w3.heap.size ≤ wr.heap.size ∧ Below w.heap.size w wr) (fun c _ => n - (intOf c).toNat)
      case atStart => exact ⟨0, xs, Nat.zero_le _, rfl, rfl, hxl, fun i => by have := hxb i; omega, hrow3, z0, z1, unhide HCell, Nat.le_refl _, bT hb d3⟩
      case round =>
        clear hrow3 z0 z1 HCell hrow k0 k1
        obtain ⟨j, ys, hj, rfl, hys, hyl, hyb, hyr, z0, z1, hcl, hz3, hby⟩ := hrel
        have HYs := hide hys
        clear hys
        by_cases hjn : j < n
        · obtain ⟨rfl, hbl⟩ := hna (by omega)
          have hjk : j < ks.length := by have := unhide HNl; omega
          have HTk := hide (take_snocN ks j hjk)
          have cj := hcl j ks[j] (List.getElem?_eq_getElem hjk)
          obtain ⟨i0, i1⟩ := unhide HIn _ (List.getElem_mem hjk)
          have jj1 : (j : Int) < (n : Int) := by omega
          generalize ks[j] = x at *
          obtain ⟨q, rfl⟩ : ∃ q : Nat, x = (q : Int) := ⟨x.toNat, by omega⟩
          have hq : q < fs.length := by omega
          have c9 := hyr.at q (by omega)
          have y9 := hyb q
          have hf9 := hyr.frz
          have hs9 := hyr.size
          have HR2 : Hid (IntRow (wr.setCell ⟨w.heap.size + 1, q, none⟩ (.int .i64 (ys.getD q 0 + 1))) (w.heap.size + 1) (bump ys (q : Int))) := by
            have h := hyr.set q (by omega) (ys.getD q 0 + 1)
            unfold bump
            rw [show ((q : Int)).toNat = q by omega]
            exact h
          have HBl := hide (bump_le hyb (q : Int))
          have HCl2 : Hid (∀ (i : Nat) (x : Int), ks[i]? = some x → (wr.setCell ⟨w.heap.size + 1, q, none⟩ (.int .i64 (ys.getD q 0 + 1))).cell? ⟨b, i, none⟩ = some (.int .i64 x)) := fun i x hx => by
            rw [setCell_farN (by omega)]; exact hcl i x hx
          have HZ0 : Hid ((wr.setCell ⟨w.heap.size + 1, q, none⟩ (.int .i64 (ys.getD q 0 + 1))).cell? ⟨w.heap.size, 0, none⟩ = some (.slice (some ⟨g, 0, none⟩) fs.length cap)) := by
            show _ = _
            rw [setCell_farN (by omega)]; exact z0
          have HZ1 : Hid ((wr.setCell ⟨w.heap.size + 1, q, none⟩ (.int .i64 (ys.getD q 0 + 1))).cell? ⟨w.heap.size, 1, none⟩ = some (.int .i64 Rt)) := by
            show _ = _
            rw [setCell_farN (by omega)]; exact z1
          have HYn : Hid (bump ys (q : Int) = (ks.take (j + 1)).foldl bump xs) := by
            show _ = _
            rw [unhide HTk, List.foldl_append, ← unhide HYs]; rfl
          have HBy := hide (hby.setCell (p := ⟨w.heap.size + 1, q, none⟩) (by dsimp only; omega) (.int .i64 (ys.getD q 0 + 1)))
          have hqi : (q : Int) < (fs.length : Int) := by omega
          have hbw : b < wr.heap.size := by omega
          clear hyr hcl HTk hyb hxb
          generalize ys.getD q 0 = y at *
          go_wp2
          go_roundw
          case rel => exact ⟨j + 1, _, by omega, by go_num, unhide HYn, by rw [bump_length]; exact hyl, fun i => by have := unhide HBl i; omega, unhide HR2, unhide HZ0, unhide HZ1, unhide HCl2, by simp; omega, unhide HBy⟩
          case measure => simp [intOf]; omega
        · obtain rfl : j = n := by omega
          have HF : Hid (ys = asksRow fs (k + 1)) := by
            show _ = _
            rw [unhide HYs, unhide HSu, ← unhide HXs, unhide HNl, List.take_length]
          clear HYs HSu HXs
          go_wp2
          go_roundw
          case rel => exact ⟨k + 1, _, by omega, by go_num, unhide HF, hyl, fun i => by have := hyb i; omega, hyr, z0, z1, by omega, hby⟩
          case measure => simp [intOf]; omega
    · obtain rfl : k = fs.length := by omega
      obtain ⟨q, rfl⟩ : ∃ q : Nat, Rt = (q : Int) := ⟨Rt.toNat, by omega⟩
      have hq : q < fs.length := by omega
      have c9 := hrow.at q (by omega)
      have y9 := hxb q
      have hf9 := hrow.frz
      have hs9 := hrow.size
      have HR2 : Hid (IntRow (wo.setCell ⟨w.heap.size + 1, q, none⟩ (.int .i64 (xs.getD q 0 + 1))) (w.heap.size + 1) (bump (asksRow fs fs.length) (q : Int))) := by
        have h := hrow.set q (by omega) (xs.getD q 0 + 1)
        unfold bump
        rw [show ((q : Int)).toNat = q by omega, ← unhide HXs]
        exact h
      have HBy := hide (hb.setCell (p := ⟨w.heap.size + 1, q, none⟩) (by dsimp only; omega) (.int .i64 (xs.getD q 0 + 1)))
      clear hrow hxb HXs
      generalize xs.getD q 0 = y at *
      go_wp2
      go_ret
      exact ⟨_, rfl, by omega, unhide HR2, unhide HBy⟩
end Go.Proofs.YtnchcndcinpalaaGreatDoor
