import Derived.Test.YtafmlbojmmdcdaaDoorLogic
namespace Go.Proofs.YtafmlbojmmdcdaaDoor
open Go Go.RowKit
set_option maxHeartbeats 400000 in
theorem lawNot3_calls (b : Bool) (n : Int) (w : World) (hTv : TVal w) (hTn : TNot w) :
    Calls Tryd.prog 4 #[.agg #[.bool b, .int .i64 n]] w fun e w' => e = .returned (.bool true) ∧ Below w.heap.size w w' := by
  have hbool : ((vB (2 - tr b n) == vB (2 - tr b n)) && (vI (2 - tr b n) == vI (2 - tr b n))) = true := by simp
  go_enter Tryd.func4, Tryd.ntmps4
  go_wp2_with fail
  refine (toVal_calls _ _ _).mono ?_; rintro e w1 ⟨rfl, hb1⟩
  have d1 := bT (bA (Below.refl w.heap.size w) _) hb1
  obtain ⟨hc1, hf1⟩ := bcell hb1; have hs1 : w.heap.size < w1.heap.size := by have := hb1.size; simp at this; omega
  go_wp2_with fail
  refine (sNot3_calls _ _ _).mono ?_; rintro e w2 ⟨rfl, hb2⟩
  have d2 := bT d1 hb2
  obtain ⟨hc2, hf2⟩ := bcell hb2; have hs2 : w.heap.size < w2.heap.size := Nat.lt_of_lt_of_le hs1 hb2.size
  go_wp2_with fail
  refine (toVal_calls _ _ _).mono ?_; rintro e w3 ⟨rfl, hb3⟩
  have d3 := bT (bA d2 _) hb3
  obtain ⟨hc3, hf3⟩ := bcell hb3; have hs3 : w2.heap.size < w3.heap.size := by have := hb3.size; simp at this; omega
  have hs3' : w.heap.size < w3.heap.size := Nat.lt_trans hs2 hs3
  go_wp2_with fail
  refine (Not3_calls _ _ _ (hTv.of d3) (hTn.of d3)).mono ?_; rintro e w4 ⟨rfl, hb4⟩
  have d4 := bT d3 hb4
  obtain ⟨hc4, hf4⟩ := bcell hb4; have hs4 : w2.heap.size < w4.heap.size := Nat.lt_of_lt_of_le hs3 hb4.size
  go_wp2_with fail
  refine (eqVal_calls _ _ _ _ _).mono ?_; rintro e w5 ⟨rfl, hb5⟩
  have d5 := bT (bA d4 _) hb5
  rw [hbool]
  go_wp2
  go_ret
  exact ⟨rfl, d5⟩
end Go.Proofs.YtafmlbojmmdcdaaDoor
