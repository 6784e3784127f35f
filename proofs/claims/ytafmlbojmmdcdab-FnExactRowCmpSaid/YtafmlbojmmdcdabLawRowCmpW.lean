import Derived.Test.YtafmlbojmmdcdabRowCmpI
import Derived.Test.YtafmlbojmmdcdabEqValS
namespace Go.Proofs.Ytafmlbojmmdcdab
open Go Go.RowKit
set_option maxHeartbeats 1000000 in
theorem lawRowCmp_calls (v u : Value) (xs ys : List V2) (w : World) (hv : IsRow w v xs) (hu : IsRow w u ys) (b1 : xs.length ≤ maxLen) (b2 : ys.length ≤ maxLen) :
    Calls Try.prog 3 #[v, u] w fun e w' => e = .returned (.bool true) ∧ Below w.heap.size w w' := by
  by_cases c1 : (1048576 : Int) < xs.length
  · have hsz := szValS_calls v xs 1048576 w hv b1 (by omega) (by omega)
    rw [if_pos c1] at hsz
    have HS := hide hsz
    clear hsz
    go_enter Try.func3, Try.ntmps3
    go_wp2_with fail
    refine (unhide HS).mono ?_; rintro e w1 ⟨rfl, rfl⟩
    go_wp2
    go_ret
    exact ⟨rfl, Below.refl _ _⟩
  have hsz := szValS_calls v xs 1048576 w hv b1 (by omega) (by omega)
  rw [if_neg c1] at hsz
  have HS := hide hsz
  clear hsz
  by_cases c2 : (1048576 : Int) - xs.length < ys.length
  · have hsz := szValS_calls u ys (1048576 - xs.length) w hu b2 (by omega) (by omega)
    rw [if_pos c2] at hsz
    have HS2 := hide hsz
    clear hsz
    have n1 : ¬ (1048576 : Int) - xs.length < 0 := by omega
    go_enter Try.func3, Try.ntmps3
    go_wp2_with fail
    refine (unhide HS).mono ?_; rintro e w1 ⟨rfl, rfl⟩
    go_wp2_with fail
    refine (unhide HS2).mono ?_; rintro e w1 ⟨rfl, rfl⟩
    go_wp2
    go_ret
    exact ⟨rfl, Below.refl _ _⟩
  have hsz := szValS_calls u ys (1048576 - xs.length) w hu b2 (by omega) (by omega)
  rw [if_neg c2] at hsz
  have HS2 := hide hsz
  clear hsz
  have n1 : ¬ (1048576 : Int) - xs.length < 0 := by omega
  have n2 : ¬ (1048576 : Int) - xs.length - ys.length < 0 := by omega
  have b3 : xs.length ≤ 1048576 := by omega
  have b4 : ys.length ≤ 1048576 := by omega
  clear b1 b2 c1 c2
  have hne : (rcmp xs ys != rcmp xs ys) = false := by simp
  go_enter Try.func3, Try.ntmps3
  go_wp2_with fail
  refine (unhide HS).mono ?_; rintro e w1 ⟨rfl, rfl⟩
  go_wp2_with fail
  refine (unhide HS2).mono ?_; rintro e w1 ⟨rfl, rfl⟩
  clear HS HS2
  go_wp2_with fail
  refine (toValS_calls v xs _ hv b3).mono ?_; rintro e w1 ⟨g1, rfl, hg1, ho1, hb1⟩
  go_wp2_with fail
  refine (toValS_calls u ys _ (hu.of hb1) b4).mono ?_; rintro e w2 ⟨g2, rfl, hg2, ho2, hb2⟩
  have d2 := bT hb1 hb2
  go_wp2_with fail
  refine (sRowCmp_calls xs ys g1 0 _ g2 0 _ _ (ho1.of hb2).size ho2.size (ho1.of hb2).held ho2.held (Nat.le_refl _) (Nat.le_refl _) b3 b4).mono ?_; rintro e w3 ⟨rfl, hb3⟩
  have d3 := bT d2 hb3
  clear ho1 ho2 hg1 hg2 hb1 hb2 hb3 d2
  go_wp2_with fail
  refine (toValS_calls v xs _ (hv.of d3) b3).mono ?_; rintro e w4 ⟨g3, rfl, hg3, ho3, hb4⟩
  have d4 := bT d3 hb4
  go_wp2_with fail
  refine (toValS_calls u ys _ (hu.of d4) b4).mono ?_; rintro e w5 ⟨g4, rfl, hg4, ho4, hb5⟩
  have d5 := bT d4 hb5
  have ho3 := ho3.of hb5
  clear hb4 hb5 d4 hg3 hg4
  go_wp2_with fail
  refine (RowCmp_calls xs ys g3 0 _ g4 0 _ _ ho3.size ho4.size ho3.held ho4.held b3 b4).mono ?_; rintro e w6 ⟨rfl, hb6⟩
  have d6 := bT d5 hb6
  have ho3 := ho3.of hb6
  have ho4 := ho4.of hb6
  go_wp2_with fail
  refine (toValS_calls v xs _ (hv.of d6) b3).mono ?_; rintro e w7 ⟨g5, rfl, hg5, ho5, hb7⟩
  have d7 := bT d6 hb7
  have ho3 := ho3.of hb7
  have ho4 := ho4.of hb7
  go_wp2_with fail
  refine (eqValS_calls xs g3 0 _ g5 0 _ _ ho3.size ho5.size ho3.held ho5.held b3).mono ?_; rintro e w8 ⟨rfl, hb8⟩
  have d8 := bT d7 hb8
  have ho4 := ho4.of hb8
  go_wp2_with fail
  refine (toValS_calls u ys _ (hu.of d8) b4).mono ?_; rintro e w9 ⟨g6, rfl, hg6, ho6, hb9⟩
  have d9 := bT d8 hb9
  have ho4 := ho4.of hb9
  go_wp2_with fail
  refine (eqValS_calls ys g4 0 _ g6 0 _ _ ho4.size ho6.size ho4.held ho6.held b4).mono ?_; rintro e w10 ⟨rfl, hb10⟩
  have d10 := bT d9 hb10
  go_wp2
  go_ret
  exact ⟨rfl, d10⟩
end Go.Proofs.Ytafmlbojmmdcdab
