import Derived.Test.YtafmlbojmmdcdaaDoorOpVal
namespace Go.Proofs.YtafmlbojmmdcdaaDoor
open Go Go.RowKit

theorem opVal_1 (n : Int) (a b : V2) (row : List V2) (g off cap : Nat) (w : World) :
    Calls Tryd.prog 44 #[.agg #[.int .i64 1, .int .i64 n], .agg #[.bool a.1, .int .i64 a.2], .agg #[.bool b.1, .int .i64 b.2], .slice (some ⟨g, off, none⟩) row.length cap] w fun e w' => e = .returned (.agg #[.bool false, .int .i64 n]) ∧ Below w.heap.size w w' := by
  go_enter Tryd.func44, Tryd.ntmps44
  go_wp2
  refine bodyPost_ret (v := .agg #[.bool false, .int .i64 n]) ?_ rfl ⟨rfl, ?_⟩
  · simp [results, Tryd.results44, go_sem]
  · exact bA (bA (bA (bA (Below.refl _ _) _) _) _) _
theorem opVal_2 (n : Int) (a b : V2) (row : List V2) (g off cap : Nat) (w : World) :
    Calls Tryd.prog 44 #[.agg #[.int .i64 2, .int .i64 n], .agg #[.bool a.1, .int .i64 a.2], .agg #[.bool b.1, .int .i64 b.2], .slice (some ⟨g, off, none⟩) row.length cap] w fun e w' => e = .returned (.agg #[.bool true, .int .i64 0]) ∧ Below w.heap.size w w' := by
  go_enter Tryd.func44, Tryd.ntmps44
  go_wp2
  refine bodyPost_ret (v := .agg #[.bool true, .int .i64 0]) ?_ rfl ⟨rfl, ?_⟩
  · simp [results, Tryd.results44, go_sem]
  · exact bA (bA (bA (bA (Below.refl _ _) _) _) _) _
set_option maxHeartbeats 1000000 in
theorem opVal_3 (n : Nat) (a b : V2) (row : List V2) (g off cap : Nat) (w : World) (hn : n < row.length) (hg : g < w.heap.size) (hr : RowAt w g off row) :
    Calls Tryd.prog 44 #[.agg #[.int .i64 3, .int .i64 (n : Int)], .agg #[.bool a.1, .int .i64 a.2], .agg #[.bool b.1, .int .i64 b.2], .slice (some ⟨g, off, none⟩) row.length cap] w fun e w' => e = .returned (.agg #[.bool (cln row[n]).1, .int .i64 (cln row[n]).2]) ∧ Below w.heap.size w w' := by
  obtain ⟨x0, x1⟩ := hr.at n hn
  have i1 : (n : Int) < (row.length : Int) := by omega
  have p1 : g < w.heap.size + 1 := by omega
  have p2 : g < w.heap.size + 1 + 1 := by omega
  have p3 : g < w.heap.size + 1 + 1 + 1 := by omega
  have CV := fun w => cleanVal_calls row[n].1 row[n].2 w
  generalize hx : row[n] = x at *
  obtain ⟨x1', x2'⟩ := x
  clear hx hr
  have HC := hide CV
  clear CV
  go_enter Tryd.func44, Tryd.ntmps44
  go_wp2_with fail
  refine (unhide HC _).mono ?_; rintro e w1 ⟨rfl, hb1⟩
  have d1 := bT (bA (bA (bA (bA (Below.refl w.heap.size w) _) _) _) _) hb1
  obtain ⟨hc1, hf1⟩ := bcell hb1
  go_wp2
  refine bodyPost_ret (v := .agg #[.bool (cln (x1', x2')).1, .int .i64 (cln (x1', x2')).2]) ?_ rfl ⟨rfl, ?_⟩
  · simp [results, Tryd.results44, go_sem, hc1]
  · exact (d1.setCell (by simp; omega) _).setCell (by simp; omega) _
set_option maxHeartbeats 1000000 in
theorem opVal_8 (n : Int) (a b : V2) (row : List V2) (g off cap : Nat) (w : World) (hTv : TVal w) :
    Calls Tryd.prog 44 #[.agg #[.int .i64 8, .int .i64 n], .agg #[.bool a.1, .int .i64 a.2], .agg #[.bool b.1, .int .i64 b.2], .slice (some ⟨g, off, none⟩) row.length cap] w fun e w' => e = .returned (.agg #[.bool (vv (if a.1 = true then 2 else 0)).1, .int .i64 (vv (if a.1 = true then 2 else 0)).2]) ∧ Below w.heap.size w w' := by
  obtain ⟨a1, a2⟩ := a
  obtain ⟨b1, b2⟩ := b
  obtain ⟨hz, hv⟩ := ((((hTv.alloc (.cells #[.int .i64 8, .int .i64 n] 39)).alloc (.cells #[.bool a1, .int .i64 a2] 24)).alloc (.cells #[.bool b1, .int .i64 b2] 24)).alloc (.cells #[.bool false, .int .i64 0] 24))
  cases a1
  all_goals
    go_enter Tryd.func44, Tryd.ntmps44
    go_wp2_with fail
    refine (isTruth_calls _ _).mono ?_; rintro e w1 ⟨rfl, rfl⟩
    go_wp2
    refine bodyPost_ret (v := .agg #[.bool (vv _).1, .int .i64 (vv _).2]) ?_ rfl ⟨rfl, ?_⟩
    · simp [results, Tryd.results44, go_sem, vv, vB, vI]
    · exact bA (bA (bA (bA (Below.refl _ _) _) _) _) _

theorem opVal_calls (k n : Int) (a b : V2) (row : List V2) (g off cap : Nat) (w : World) (ht : ¬ tk k n row.length < 0) (hTv : TVal w) (hTn : TNot w) (hTa : TAnd w) (hTo : TOr w) (hTc : TCmp w) (hg : g < w.heap.size) (hr : RowAt w g off row) :
    Calls Tryd.prog 44 #[.agg #[.int .i64 k, .int .i64 n], .agg #[.bool a.1, .int .i64 a.2], .agg #[.bool b.1, .int .i64 b.2], .slice (some ⟨g, off, none⟩) row.length cap] w fun e w' => e = .returned (.agg #[.bool (opv k n a b row).1, .int .i64 (opv k n a b row).2]) ∧ Below w.heap.size w w' := by
  have hk : k = 1 ∨ k = 2 ∨ (k = 3 ∧ 0 ≤ n ∧ n < row.length) ∨ k = 4 ∨ k = 5 ∨ k = 6 ∨ k = 7 ∨ k = 8 := by
    unfold tk at ht
    repeat (split at ht <;> try omega)
  rcases hk with rfl | rfl | ⟨rfl, h0, h1⟩ | rfl | rfl | rfl | rfl | rfl
  · exact opVal_1 n a b row g off cap w
  · exact opVal_2 n a b row g off cap w
  · obtain ⟨j, rfl⟩ := Int.eq_ofNat_of_zero_le h0
    have hj : j < row.length := by omega
    have e : opv 3 (j : Int) a b row = cln row[j] := by simp [opv, List.getD, hj]
    rw [e]
    exact opVal_3 j a b row g off cap w hj hg hr
  · exact opVal_4 n a b row g off cap w hTv hTc
  · exact opVal_5 n a b row g off cap w hTv hTa
  · exact opVal_6 n a b row g off cap w hTv hTo
  · exact opVal_7 n a b row g off cap w hTv hTn
  · exact opVal_8 n a b row g off cap w hTv
end Go.Proofs.YtafmlbojmmdcdaaDoor
