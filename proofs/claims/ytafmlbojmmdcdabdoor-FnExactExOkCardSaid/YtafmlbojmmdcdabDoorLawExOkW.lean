import Derived.Test.YtafmlbojmmdcdabDoorExOk
import Derived.Test.YtafmlbojmmdcdabDoorEqOpS
namespace Go.Proofs.YtafmlbojmmdcdabDoor
open Go Go.RowKit
set_option maxHeartbeats 1000000 in
theorem lawExOk_calls (W : Int) (v : Value) (xs : List O2) (w : World) (hv : IsOps w v xs) (b1 : xs.length ≤ maxLen) (hT : TTakes w) :
    Calls Tryd.prog 5 #[v, .int .i64 W] w fun e w' => e = .returned (.bool true) ∧ Below w.heap.size w w' := by
  by_cases c1 : (1048576 : Int) < xs.length
  · have hsz := szOpS_calls v xs 1048576 w hv b1 (by omega) (by omega)
    rw [if_pos c1] at hsz
    have HS := hide hsz
    clear hsz
    go_enter Tryd.func5, Tryd.ntmps5
    go_wp2_with fail
    refine (unhide HS).mono ?_; rintro e w1 ⟨rfl, rfl⟩
    go_wp2
    go_ret
    exact ⟨rfl, Below.refl _ _⟩
  have hsz := szOpS_calls v xs 1048576 w hv b1 (by omega) (by omega)
  rw [if_neg c1] at hsz
  have HS := hide hsz
  clear hsz
  have n1 : ¬ (1048576 : Int) - xs.length < 0 := by omega
  have b3 : xs.length ≤ 1048576 := by omega
  clear b1 c1
  obtain ⟨E, hE⟩ : ∃ E, E = exOk W xs := ⟨_, rfl⟩
  have SX := fun g off cap w h1 h2 => sExOk_calls xs g off cap W w h1 h2 b3
  have IX := fun g off cap w h0 h1 h2 => ExOk_calls xs g off cap W w h0 h1 h2 b3
  rw [← hE] at SX IX
  have HSX := hide SX; have HIX := hide IX
  clear SX IX hE
  have hne : (E != E) = false := by simp
  cases E
  all_goals
    go_enter Tryd.func5, Tryd.ntmps5
    go_wp2_with fail
    refine (unhide HS).mono ?_; rintro e w1 ⟨rfl, rfl⟩
    go_wp2_with fail
    refine (toOpS_calls v xs _ hv b3).mono ?_; rintro e w1 ⟨g1, rfl, hg1, ho1, hb1⟩
    go_wp2_with fail
    refine (unhide HSX g1 0 _ _ ho1.size ho1.held).mono ?_; rintro e w2 ⟨rfl, hb2⟩
    have d2 := bT hb1 hb2
    clear ho1 hg1 hb1 hb2
    go_wp2_with fail
    refine (toOpS_calls v xs _ (hv.of d2) b3).mono ?_; rintro e w3 ⟨g3, rfl, hg3, ho3, hb3⟩
    have d3 := bT d2 hb3
    go_wp2_with fail
    refine (unhide HIX g3 0 _ _ (hT.of d3) ho3.size ho3.held).mono ?_; rintro e w4 ⟨rfl, hb4⟩
    have d4 := bT d3 hb4
    have ho3 := ho3.of hb4
    go_wp2_with fail
    refine (toOpS_calls v xs _ (hv.of d4) b3).mono ?_; rintro e w5 ⟨g5, rfl, hg5, ho5, hb5⟩
    have d5 := bT d4 hb5
    have ho3 := ho3.of hb5
    go_wp2_with fail
    refine (eqOpS_calls xs g3 0 _ g5 0 _ _ ho3.size ho5.size ho3.held ho5.held b3).mono ?_; rintro e w6 ⟨rfl, hb6⟩
    have d6 := bT d5 hb6
    go_wp2
    go_ret
    exact ⟨rfl, d6⟩
end Go.Proofs.YtafmlbojmmdcdabDoor
