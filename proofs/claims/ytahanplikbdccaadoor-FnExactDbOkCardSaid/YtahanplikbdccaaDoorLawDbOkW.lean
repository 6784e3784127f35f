import Derived.Test.YtahanplikbdccaaDoorSpecDb
import Derived.Test.YtahanplikbdccaaDoorImplDb2
import Derived.Test.YtahanplikbdccaaDoorDbFns
import Derived.Test.YtahanplikbdccaaDoorSzDb
import Derived.Test.YtahanplikbdccaaDoorEqDb
import Derived.Deep.RegionHeld3
namespace Go.Proofs.YtahanplikbdccaaDoor
open Go Go.RowKit

theorem smallT_each {ts : List Tb} (h : SmallT ts) : ∀ t ∈ ts, t.Rows.length ≤ 1048576 ∧ bulk t.Rows ≤ 1048576 := fun t ht => by
  have := bulkT_mem ht
  unfold SmallT at h
  exact ⟨by omega, by omega⟩

set_option maxHeartbeats 2000000 in
theorem lawDbOk_calls (v : Value) (ts : List Tb) (w : World) (hv : IsTables w v ts) (hl : ts.length ≤ maxLen) (hf : FitsT ts) (hTK : TKw w) :
    Calls Tryd.prog 3 #[.agg #[v]] w fun e w' => e = .returned (.bool true) ∧ Below w.heap.size w w' := by
  have SZ := fun W (hb : Below w.heap.size w W) => szDb_calls v ts 1048576 W (hv.of hb) hl hf (by omega) (by omega)
  have HV := hide hv
  obtain ⟨a, cap, rfl⟩ : ∃ a cap, v = .slice a ts.length cap := by
    rcases hv with ⟨rfl, a, cap, rfl⟩ | ⟨g, off, cap, rfl, _⟩
    · exact ⟨a, cap, rfl⟩
    · exact ⟨_, cap, rfl⟩
  clear hv hf
  by_cases c1 : (1048576 : Int) < ((ts.length + bulkT ts : Nat) : Int)
  · have ez : szr 1048576 (ts.length + bulkT ts) = -1 := by unfold szr; rw [if_pos c1]
    rw [ez] at SZ
    have HS := hide SZ
    clear SZ ez hTK hl c1
    go_enter Tryd.func3, Tryd.ntmps3
    go_wp2_with fail
    refine (unhide HS _ (bA (Below.refl _ _) _)).mono ?_; rintro e w1 ⟨rfl, hb1⟩
    go_wp2
    go_ret
    exact ⟨rfl, bT (bA (Below.refl _ _) _) hb1⟩
  have ez : szr 1048576 (ts.length + bulkT ts) = 1048576 - ((ts.length + bulkT ts : Nat) : Int) := by unfold szr; rw [if_neg c1]
  rw [ez] at SZ
  obtain ⟨z, hz⟩ : ∃ z : Int, 1048576 - ((ts.length + bulkT ts : Nat) : Int) = z := ⟨_, rfl⟩
  rw [hz] at SZ
  have hz0 : ¬ z < 0 := by omega
  have hn1 : ts.length ≤ 1048576 := by omega
  have hsm : SmallT ts := (show bulkT ts ≤ 1048576 by omega)
  have hkb := smallT_each hsm
  have TA := fun W (hb : Below w.heap.size w W) => toDb_calls (.slice a ts.length cap) ts W ((unhide HV).of hb) hn1 hkb
  have SA := fun g c W h1 h2 => sDbOk_calls ts g c W h1 h2 hn1 hsm
  have IA := fun g c W h1 h2 (hb : Below w.heap.size w W) => DbOk_calls ts g c W h1 h2 hn1 hsm (hTK.of hb) 
  have EA := fun g g' c c' W h1 h2 h3 h4 => eqDb_calls ts g g' c c' W h1 h2 h3 h4 hn1 hkb
  generalize dB (DbV ts) = E at *
  have HSZ := hide SZ; have HTA := hide TA; have HSA := hide SA; have HIA := hide IA; have HEA := hide EA
  have hne : (E != E) = false := by simp
  clear SZ TA SA IA EA hsm hkb ez hz hTK c1 hl HV hn1
  cases E
  all_goals
    go_enter Tryd.func3, Tryd.ntmps3
    go_wp2_with fail
    refine (unhide HSZ _ (bA (Below.refl _ _) _)).mono ?_; rintro e w1 ⟨rfl, hb1⟩
    have d1 := bT (bA (Below.refl w.heap.size w) _) hb1
    have ba1 : w1.cell? ⟨w.heap.size, 0, none⟩ = some (.slice a ts.length cap) := (hb1.cell (p := ⟨w.heap.size, 0, none⟩) (by simp)).trans (by simp [go_sem])
    have s1 : w.heap.size < w1.heap.size := by have := hb1.size; simp at this; omega
    clear hb1
    go_wp2_with fail
    refine (unhide HTA _ d1).mono ?_; rintro e w2 ⟨g2, rfl, hg2, hs2, hn2, hb2⟩
    have d2 := bT d1 hb2
    have ba2 := (hb2.cell (p := ⟨w.heap.size, 0, none⟩) s1).trans ba1
    have s2 : w.heap.size < w2.heap.size := Nat.lt_of_lt_of_le s1 hb2.size
    clear hb2 ba1
    go_wp2_with fail
    refine (unhide HSA g2 _ w2 hs2 hn2).mono ?_; rintro e w3 ⟨rfl, hb3⟩
    have d3 := bT d2 hb3
    have ba3 := (hb3.cell (p := ⟨w.heap.size, 0, none⟩) s2).trans ba2
    have s3 : w.heap.size < w3.heap.size := Nat.lt_of_lt_of_le s2 hb3.size
    clear hb3 ba2 hn2 hs2 hg2
    go_wp2_with fail
    refine (unhide HTA _ d3).mono ?_; rintro e w4 ⟨g4, rfl, hg4, hs4, hn4, hb4⟩
    have d4 := bT d3 hb4
    have ba4 := (hb4.cell (p := ⟨w.heap.size, 0, none⟩) s3).trans ba3
    have s4 : w.heap.size < w4.heap.size := Nat.lt_of_lt_of_le s3 hb4.size
    clear hb4 ba3 hg4
    go_wp2_with fail
    refine (unhide HIA g4 _ _ (by simp; omega) (hn4.of hs4 (bA (Below.refl _ _) _)) (bA d4 _)).mono ?_; rintro e w5 ⟨rfl, hb5⟩
    have d5 := bT (bA d4 _) hb5
    have ba5 : w5.cell? ⟨w.heap.size, 0, none⟩ = some (.slice a ts.length cap) := (hb5.cell (p := ⟨w.heap.size, 0, none⟩) (by simp; omega)).trans ((((Below.refl w4.heap.size w4).alloc (Nat.le_refl _) _).cell (p := ⟨w.heap.size, 0, none⟩) s4).trans ba4)
    have bx5 : w5.cell? ⟨w4.heap.size, 0, none⟩ = some (.slice (some ⟨g4, 0, none⟩) ts.length ts.length) := (hb5.cell (p := ⟨w4.heap.size, 0, none⟩) (by simp)).trans (by simp [go_sem])
    have s5 : w4.heap.size < w5.heap.size := by have := hb5.size; simp at this; omega
    have hn5 : TablesAt w5 g4 0 ts := hn4.of hs4 (bT (bA (Below.refl _ _) _) hb5)
    have hs5 : g4 < w5.heap.size := by omega
    have sA : w.heap.size < w5.heap.size := by omega
    have HN5 := hide hn5
    generalize w4.heap.size = B5 at *
    clear hn4 hs4 hb5 ba4 d4 hn5
    go_upto_region 10 with fail
    have RT : Hid (∀ W, Std w5 W → Calls Tryd.prog 8 #[.agg #[.slice a ts.length cap]] W fun e w' => ∃ g, e = .returned (.agg #[.slice (some ⟨g, 0, none⟩) ts.length ts.length]) ∧ W.heap.size ≤ g ∧ g < w'.heap.size ∧ TablesAt w' g 0 ts ∧ Below W.heap.size W w') := fun W h => unhide HTA W (bT d5 h.2.2)
    have RE : Hid (∀ W g', Std w5 W → g' < W.heap.size → TablesAt W g' 0 ts → Calls Tryd.prog 10 #[.agg #[.slice (some ⟨g4, 0, none⟩) ts.length ts.length], .agg #[.slice (some ⟨g', 0, none⟩) ts.length ts.length]] W fun e w' => e = .returned (.bool true) ∧ Below W.heap.size W w') :=
      fun W g' h h1 h2 => unhide HEA g4 g' _ _ W (Nat.lt_of_lt_of_le hs5 h.2.2.size) h1 ((unhide HN5).of hs5 h.2.2) h2
    go_region_held3 (Std w5) (repeat (first | with_reducible assumption | with_reducible exact Std.refl _ | with_reducible refine Std.drew ?_ | with_reducible refine Std.alloc ?_ _ | with_reducible refine Std.setCell ?_ ?_ _ | with_reducible refine Std.call ?_ (by with_reducible assumption) | (simp <;> omega) | omega)) (first
      | (go_at_call 8; refine (unhide RT _ (by assumption)).mono ?_; rintro e w6 ⟨g6, rfl, hg6, hs6, hn6, hb6⟩)
      | (go_at_call 10; refine (unhide RE _ _ (by assumption) (by assumption) (by assumption)).mono ?_; rintro e w7 ⟨rfl, hb7⟩))
    have hS : Std w5 w7 := by assumption
    go_wp2
    go_ret
    exact ⟨rfl, bT d5 hS.2.2⟩
end Go.Proofs.YtahanplikbdccaaDoor
