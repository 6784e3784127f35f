import Derived.Test.YtafmlbojmmdcdaaDoorAnd
import Derived.Deep.DeepCutAuto
namespace Go.Proofs.YtafmlbojmmdcdaaDoor
open Go Go.RowKit
set_option maxHeartbeats 1000000 in
theorem sAnd3_calls (b c : Bool) (n m : Int) (w : World) :
    Calls Tryd.prog 12 #[.agg #[.bool b, .int .i64 n], .agg #[.bool c, .int .i64 m]] w fun e w' => e = .returned (.agg #[.bool (vB (min (tr b n) (tr c m))), .int .i64 (vI (min (tr b n) (tr c m)))]) ∧ Below w.heap.size w w' := by
  obtain ⟨x, hx, hx2⟩ := tr_nat b n
  obtain ⟨y, hy, hy2⟩ := tr_nat c m
  by_cases hlt : (x : Int) < y
  · have HZ : Hid (min (tr b n) (tr c m) = (x : Int)) := by show _ = _; rw [hx, hy]; omega
    go_enter Tryd.func12, Tryd.ntmps12
    go_wp2_with fail
    refine (l1Truth_calls _ _ _).mono ?_; rintro e w1 ⟨rfl, hb1⟩
    rw [hx]
    have d1 := bT (bA (bA (bA (Below.refl w.heap.size w) _) _) _) hb1
    obtain ⟨hc1, hf1⟩ := bcell hb1; have hs1 := hb1.size; simp at hs1
    have p1 : w.heap.size < w1.heap.size := by omega
    have p2 : w.heap.size + 1 < w1.heap.size := by omega
    have p3 : w.heap.size + 1 + 1 < w1.heap.size := by omega
    go_wp2_with fail
    refine (l1Truth_calls _ _ _).mono ?_; rintro e w2 ⟨rfl, hb2⟩
    rw [hy]
    have d2 := bT d1 hb2
    obtain ⟨hc2, hf2⟩ := bcell hb2; have hs2 := hb2.size
    have q3 : w.heap.size + 1 + 1 < w2.heap.size := by omega
    go_wp2_with fail
    refine (l1Val_calls _ (by omega) _).mono ?_; rintro e w3 ⟨rfl, hb3⟩
    have d3 := bT d2 hb3
    obtain ⟨hc3, hf3⟩ := bcell hb3
    go_wp2
    refine bodyPost_ret (v := .agg #[.bool (vB (min (tr b n) (tr c m))), .int .i64 (vI (min (tr b n) (tr c m)))]) ?_ rfl ⟨rfl, ?_⟩
    · rw [HZ.out]; simp [results, Tryd.results12, go_sem, hc3, hc2, hc1, p3, q3]
    · exact (d3.setCell (by simp; omega) _).setCell (by simp; omega) _
  · have HZ : Hid (min (tr b n) (tr c m) = (y : Int)) := by show _ = _; rw [hx, hy]; omega
    go_enter Tryd.func12, Tryd.ntmps12
    go_wp2_with fail
    refine (l1Truth_calls _ _ _).mono ?_; rintro e w1 ⟨rfl, hb1⟩
    rw [hx]
    have d1 := bT (bA (bA (bA (Below.refl w.heap.size w) _) _) _) hb1
    obtain ⟨hc1, hf1⟩ := bcell hb1; have hs1 := hb1.size; simp at hs1
    have p1 : w.heap.size < w1.heap.size := by omega
    have p2 : w.heap.size + 1 < w1.heap.size := by omega
    have p3 : w.heap.size + 1 + 1 < w1.heap.size := by omega
    go_wp2_with fail
    refine (l1Truth_calls _ _ _).mono ?_; rintro e w2 ⟨rfl, hb2⟩
    rw [hy]
    have d2 := bT d1 hb2
    obtain ⟨hc2, hf2⟩ := bcell hb2; have hs2 := hb2.size
    have q3 : w.heap.size + 1 + 1 < w2.heap.size := by omega
    go_wp2_with fail
    refine (l1Val_calls _ (by omega) _).mono ?_; rintro e w3 ⟨rfl, hb3⟩
    have d3 := bT d2 hb3
    obtain ⟨hc3, hf3⟩ := bcell hb3
    go_wp2
    refine bodyPost_ret (v := .agg #[.bool (vB (min (tr b n) (tr c m))), .int .i64 (vI (min (tr b n) (tr c m)))]) ?_ rfl ⟨rfl, ?_⟩
    · rw [HZ.out]; simp [results, Tryd.results12, go_sem, hc3, hc2, hc1, p3, q3]
    · exact (d3.setCell (by simp; omega) _).setCell (by simp; omega) _
end Go.Proofs.YtafmlbojmmdcdaaDoor
