import Derived.Test.YtafmlbojmmdcdabDoorEvalEx
import Derived.Test.YtafmlbojmmdcdabDoorEqOpS
import Derived.Test.YtafmlbojmmdcdabDoorEqValS
namespace Go.Proofs.YtafmlbojmmdcdabDoor
open Go Go.RowKit
set_option maxHeartbeats 1000000 in
theorem lawEvalEx_calls (v u : Value) (xs : List O2) (ys : List V2) (w : World) (hv : IsOps w v xs) (hu : IsRow w u ys) (b1 : xs.length ≤ maxLen) (b2 : ys.length ≤ maxLen) (hTv : TVal w) (hTn : TNot w) (hTa : TAnd w) (hTo : TOr w) (hTc : TCmp w) (hT : TTakes w) :
    Calls Tryd.prog 6 #[v, u] w fun e w' => e = .returned (.bool true) ∧ Below w.heap.size w w' := by
  by_cases c1 : (1048576 : Int) < xs.length
  · have hsz := szOpS_calls v xs 1048576 w hv b1 (by omega) (by omega)
    rw [if_pos c1] at hsz
    have HS := hide hsz
    clear hsz
    go_enter Tryd.func6, Tryd.ntmps6
    go_wp2_with fail
    refine (unhide HS).mono ?_; rintro e w1 ⟨rfl, rfl⟩
    go_wp2
    go_ret
    exact ⟨rfl, Below.refl _ _⟩
  have hsz := szOpS_calls v xs 1048576 w hv b1 (by omega) (by omega)
  rw [if_neg c1] at hsz
  have HS := hide hsz
  clear hsz
  by_cases c2 : (1048576 : Int) - xs.length < ys.length
  · have hsz := szValS_calls u ys (1048576 - xs.length) w hu b2 (by omega) (by omega)
    rw [if_pos c2] at hsz
    have HS2 := hide hsz
    clear hsz
    have n1 : ¬ (1048576 : Int) - xs.length < 0 := by omega
    go_enter Tryd.func6, Tryd.ntmps6
    go_wp2_with fail
    refine (unhide HS).mono ?_; rintro e w1 ⟨rfl, rfl⟩
    go_wp2_with fail
    refine (unhide HS2).mono ?_; rintro e w1 ⟨rfl, rfl⟩
    go_wp2
    go_ret
    exact ⟨rfl, Below.refl _ _⟩
  have hsz := szValS_calls u ys (1048576 - xs.length) w hu b2 (by omega) (by omega)
  rw [if_neg c2] at hsz
  have HS2 := hide hsz
  clear hsz
  have n1 : ¬ (1048576 : Int) - xs.length < 0 := by omega
  have n2 : ¬ (1048576 : Int) - xs.length - ys.length < 0 := by omega
  have b3 : xs.length ≤ 1048576 := by omega
  have b4 : ys.length ≤ 1048576 := by omega
  clear b1 b2 c1 c2
  have SX := fun g off cap gr offr capr w h1 h2 h3 h4 => sEvalEx_calls xs ys g off cap gr offr capr w h1 h2 h3 h4 b3
  have IX := fun g off cap gr offr capr w t0 t1 t2 t3 t4 t5 h1 h2 h3 h4 => EvalEx_calls xs ys g off cap gr offr capr w t0 t1 t2 t3 t4 t5 h1 h2 h3 h4 b3
  generalize evx ys xs = y at *
  generalize exOk ys.length xs = E at *
  have HSX := hide SX; have HIX := hide IX
  clear SX IX
  have hbool : ((y.1 == y.1) && (y.2 == y.2)) = true := by simp
  have hE : (E != E) = false := by simp
  cases E
  all_goals
    go_enter Tryd.func6, Tryd.ntmps6
    go_wp2_with fail
    refine (unhide HS).mono ?_; rintro e w1 ⟨rfl, rfl⟩
    go_wp2_with fail
    refine (unhide HS2).mono ?_; rintro e w1 ⟨rfl, rfl⟩
    clear HS HS2
    go_wp2_with fail
    refine (toOpS_calls v xs _ hv b3).mono ?_; rintro e w1 ⟨g1, rfl, hg1, ho1, hb1⟩
    go_wp2_with fail
    refine (toValS_calls u ys _ (hu.of hb1) b4).mono ?_; rintro e w2 ⟨g2, rfl, hg2, ho2, hb2⟩
    have d2 := bT hb1 hb2
    go_wp2_with fail
    refine (unhide HSX g1 0 _ g2 0 _ _ (ho1.of hb2).size (ho1.of hb2).held ho2.size ho2.held).mono ?_; rintro e w3 ⟨rfl, hb3⟩
    have d3 := bT d2 hb3
    clear ho1 ho2 hg1 hg2 hb1 hb2 hb3 d2
    go_wp2_with fail
    have d3b := bA d3 (.cells #[.bool y.1, .int .i64 y.2] 24)
    have hB : Box (w3.alloc (.cells #[.bool y.1, .int .i64 y.2] 24)) w3.heap.size y.1 y.2 := ⟨by simp, by simp [go_sem], by simp [go_sem]⟩
    refine (toOpS_calls v xs _ (hv.of d3b) b3).mono ?_; rintro e w4 ⟨g3, rfl, hg3, ho3, hb4⟩
    have d4 := bT d3b hb4
    have hB := hB.of hb4
    go_wp2_with fail
    refine (toValS_calls u ys _ (hu.of d4) b4).mono ?_; rintro e w5 ⟨g4, rfl, hg4, ho4, hb5⟩
    have d5 := bT d4 hb5
    have ho3 := ho3.of hb5
    have hB := hB.of hb5
    clear hb4 hb5 d4 hg3 hg4
    go_wp2_with fail
    refine (unhide HIX g3 0 _ g4 0 _ _ (hT.of d5) (hTv.of d5) (hTn.of d5) (hTa.of d5) (hTo.of d5) (hTc.of d5) ho3.size ho3.held ho4.size ho4.held).mono ?_; rintro e w6 ⟨rfl, hb6⟩
    have d6 := bT d5 hb6
    have ho3 := ho3.of hb6
    have ho4 := ho4.of hb6
    have hB := hB.of hb6
    obtain ⟨s0, s1, s2⟩ := hB
    have s3 : w3.heap.size < w6.heap.size + 1 := by omega
    clear HSX HIX
    go_wp2_with fail
    refine (eqVal_calls _ _ _ _ _).mono ?_; rintro e w7 ⟨rfl, hb7⟩
    rw [hbool]
    have hb7' := bT (bA (Below.refl w6.heap.size w6) _) hb7
    have d7 := bT d6 hb7'
    have ho3 := ho3.of hb7'
    have ho4 := ho4.of hb7'
    clear hb7 hb7' s1 s2
    go_wp2_with fail
    refine (toOpS_calls v xs _ (hv.of d7) b3).mono ?_; rintro e w8 ⟨g5, rfl, hg5, ho5, hb8⟩
    have d8 := bT d7 hb8
    have ho3 := ho3.of hb8
    have ho4 := ho4.of hb8
    go_wp2_with fail
    refine (eqOpS_calls xs g3 0 _ g5 0 _ _ ho3.size ho5.size ho3.held ho5.held b3).mono ?_; rintro e w9 ⟨rfl, hb9⟩
    have d9 := bT d8 hb9
    have ho4 := ho4.of hb9
    go_wp2_with fail
    refine (toValS_calls u ys _ (hu.of d9) b4).mono ?_; rintro e w10 ⟨g6, rfl, hg6, ho6, hb10⟩
    have d10 := bT d9 hb10
    have ho4 := ho4.of hb10
    go_wp2_with fail
    refine (eqValS_calls ys g4 0 _ g6 0 _ _ ho4.size ho6.size ho4.held ho6.held b4).mono ?_; rintro e w11 ⟨rfl, hb11⟩
    have d11 := bT d10 hb11
    go_wp2
    go_ret
    exact ⟨rfl, d11⟩
end Go.Proofs.YtafmlbojmmdcdabDoor
