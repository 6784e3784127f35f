import Derived.Test.YtafmlbojmmdcdaaDoorTruth
namespace Go.Proofs.YtafmlbojmmdcdaaDoor
open Go Go.RowKit
set_option maxHeartbeats 400000 in
theorem Not3_calls (b : Bool) (n : Int) (w : World) (hTv : TVal w) (hTn : TNot w) :
    Calls Tryd.prog 7 #[.agg #[.bool b, .int .i64 n]] w fun e w' => e = .returned (.agg #[.bool (vB (2 - tr b n)), .int .i64 (vI (2 - tr b n))]) ∧ Below w.heap.size w w' := by
  rcases tr_cases b n with h | h | h
  all_goals
    go_enter Tryd.func7, Tryd.ntmps7
    go_wp2_with (go_at_call 23; refine (truthOf_calls _ _ _).mono ?_; rintro e w1 ⟨rfl, hb⟩; rw [h]; obtain ⟨hz1, hv1⟩ := ((hTv.alloc _).alloc _).of hb; obtain ⟨hz2, hn1⟩ := ((hTn.alloc _).alloc _).of hb; obtain ⟨hc, hf⟩ := bcell hb; have hs := hb.size; simp at hs)
    refine bodyPost_ret (v := .agg #[.bool (vB (2 - tr b n)), .int .i64 (vI (2 - tr b n))]) ?_ rfl ⟨rfl, ?_⟩
    · simp [results, Tryd.results7, go_sem, hc, vB, vI, h]
    · exact ((bT (bA (bA (Below.refl _ _) _) _) hb).setCell (by simp) _).setCell (by simp) _

set_option maxHeartbeats 400000 in
theorem sNot3_calls (b : Bool) (n : Int) (w : World) :
    Calls Tryd.prog 11 #[.agg #[.bool b, .int .i64 n]] w fun e w' => e = .returned (.agg #[.bool (vB (2 - tr b n)), .int .i64 (vI (2 - tr b n))]) ∧ Below w.heap.size w w' := by
  rcases tr_cases b n with h | h | h
  all_goals
    go_enter Tryd.func11, Tryd.ntmps11
    go_wp2_with fail
    refine (l1Truth_calls _ _ _).mono ?_; rintro e w1 ⟨rfl, hb⟩; rw [h]; obtain ⟨hc, hf⟩ := bcell hb; have hs : w.heap.size + 1 < w1.heap.size := by have := hb.size; simp at this; omega
    go_wp2_with fail
    refine (l1Val_calls _ (by omega) _).mono ?_; rintro e w2 ⟨rfl, hb2⟩; obtain ⟨hc2, hf2⟩ := bcell hb2
    go_wp2
    refine bodyPost_ret (v := .agg #[.bool (vB (2 - tr b n)), .int .i64 (vI (2 - tr b n))]) ?_ rfl ⟨rfl, ?_⟩
    · simp [results, Tryd.results11, go_sem, hc2, hc, hs, vB, vI, h]
    · exact ((bT (bT (bA (bA (Below.refl _ _) _) _) hb) hb2).setCell (by simp) _).setCell (by simp) _
end Go.Proofs.YtafmlbojmmdcdaaDoor
