import Derived.Test.YtkdeilhkobcglaaDoorFlatMath
/-
  WHAT A KIND OF FLAT OPERATOR USES, as the specification says it.
-/
namespace Go.Proofs.YtkdeilhkobcglaaDoor
open Go Go.RowKit

set_option maxHeartbeats 2000000 in
theorem l4Two_calls (k : Int) (w : World) : Calls Tryd.prog 65 #[.int .i64 k] w fun e w' => e = .returned (.bool (decide (twoK k))) ∧ w' = w := by
  have hc : k = 3 ∨ k = 4 ∨ k = 5 ∨ k = 6 ∨ k = 7 ∨ k = 8 ∨ k = 9 ∨ k = 10 ∨ k = 11 ∨ (k ≠ 3 ∧ k ≠ 4 ∧ k ≠ 5 ∧ k ≠ 6 ∧ k ≠ 7 ∧ k ≠ 8 ∧ k ≠ 9 ∧ k ≠ 10 ∧ k ≠ 11) := by omega
  rcases hc with rfl | rfl | rfl | rfl | rfl | rfl | rfl | rfl | rfl | ⟨h3, h4, h5, h6, h7, h8, h9, h10, h11⟩
  · have HE : Hid (decide (twoK 3) = false) := by show _ = _; decide
    go_enter Tryd.func65, Tryd.ntmps65
    go_wp2
    go_ret
    exact ⟨congrArg (fun z => Ending.returned (.bool z)) HE.out.symm, by first | rfl | trivial⟩
  · have HE : Hid (decide (twoK 4) = false) := by show _ = _; decide
    go_enter Tryd.func65, Tryd.ntmps65
    go_wp2
    go_ret
    exact ⟨congrArg (fun z => Ending.returned (.bool z)) HE.out.symm, by first | rfl | trivial⟩
  · have HE : Hid (decide (twoK 5) = true) := by show _ = _; decide
    go_enter Tryd.func65, Tryd.ntmps65
    go_wp2
    go_ret
    exact ⟨congrArg (fun z => Ending.returned (.bool z)) HE.out.symm, by first | rfl | trivial⟩
  · have HE : Hid (decide (twoK 6) = true) := by show _ = _; decide
    go_enter Tryd.func65, Tryd.ntmps65
    go_wp2
    go_ret
    exact ⟨congrArg (fun z => Ending.returned (.bool z)) HE.out.symm, by first | rfl | trivial⟩
  · have HE : Hid (decide (twoK 7) = true) := by show _ = _; decide
    go_enter Tryd.func65, Tryd.ntmps65
    go_wp2
    go_ret
    exact ⟨congrArg (fun z => Ending.returned (.bool z)) HE.out.symm, by first | rfl | trivial⟩
  · have HE : Hid (decide (twoK 8) = false) := by show _ = _; decide
    go_enter Tryd.func65, Tryd.ntmps65
    go_wp2
    go_ret
    exact ⟨congrArg (fun z => Ending.returned (.bool z)) HE.out.symm, by first | rfl | trivial⟩
  · have HE : Hid (decide (twoK 9) = true) := by show _ = _; decide
    go_enter Tryd.func65, Tryd.ntmps65
    go_wp2
    go_ret
    exact ⟨congrArg (fun z => Ending.returned (.bool z)) HE.out.symm, by first | rfl | trivial⟩
  · have HE : Hid (decide (twoK 10) = true) := by show _ = _; decide
    go_enter Tryd.func65, Tryd.ntmps65
    go_wp2
    go_ret
    exact ⟨congrArg (fun z => Ending.returned (.bool z)) HE.out.symm, by first | rfl | trivial⟩
  · have HE : Hid (decide (twoK 11) = true) := by show _ = _; decide
    go_enter Tryd.func65, Tryd.ntmps65
    go_wp2
    go_ret
    exact ⟨congrArg (fun z => Ending.returned (.bool z)) HE.out.symm, by first | rfl | trivial⟩
  · have HE : Hid (decide (twoK k) = false) := by show _ = _; exact decide_eq_false (by omega)
    have q3 : (k == 3) = false := beq_eq_false_iff_ne.2 h3
    have q4 : (k == 4) = false := beq_eq_false_iff_ne.2 h4
    have q5 : (k == 5) = false := beq_eq_false_iff_ne.2 h5
    have q6 : (k == 6) = false := beq_eq_false_iff_ne.2 h6
    have q7 : (k == 7) = false := beq_eq_false_iff_ne.2 h7
    have q8 : (k == 8) = false := beq_eq_false_iff_ne.2 h8
    have q9 : (k == 9) = false := beq_eq_false_iff_ne.2 h9
    have q10 : (k == 10) = false := beq_eq_false_iff_ne.2 h10
    have q11 : (k == 11) = false := beq_eq_false_iff_ne.2 h11
    go_enter Tryd.func65, Tryd.ntmps65
    go_wp2
    go_ret
    exact ⟨congrArg (fun z => Ending.returned (.bool z)) HE.out.symm, by first | rfl | trivial⟩
set_option maxHeartbeats 2000000 in
theorem l4One_calls (k : Int) (w : World) : Calls Tryd.prog 64 #[.int .i64 k] w fun e w' => e = .returned (.bool (decide (oneK k))) ∧ w' = w := by
  have HI := hide (fun W => l4Two_calls k W)
  have hc : k = 3 ∨ k = 4 ∨ k = 5 ∨ k = 6 ∨ k = 7 ∨ k = 8 ∨ k = 9 ∨ k = 10 ∨ k = 11 ∨ (k ≠ 3 ∧ k ≠ 4 ∧ k ≠ 5 ∧ k ≠ 6 ∧ k ≠ 7 ∧ k ≠ 8 ∧ k ≠ 9 ∧ k ≠ 10 ∧ k ≠ 11) := by omega
  rcases hc with rfl | rfl | rfl | rfl | rfl | rfl | rfl | rfl | rfl | ⟨h3, h4, h5, h6, h7, h8, h9, h10, h11⟩
  · have HE : Hid (decide (oneK 3) = true) := by show _ = _; decide
    go_enter Tryd.func64, Tryd.ntmps64
    go_wp2_with fail
    refine (unhide HI _).mono ?_; rintro e w1 ⟨rfl, rfl⟩
    go_wp2
    go_ret
    exact ⟨congrArg (fun z => Ending.returned (.bool z)) HE.out.symm, by first | rfl | trivial⟩
  · have HE : Hid (decide (oneK 4) = true) := by show _ = _; decide
    go_enter Tryd.func64, Tryd.ntmps64
    go_wp2_with fail
    refine (unhide HI _).mono ?_; rintro e w1 ⟨rfl, rfl⟩
    go_wp2
    go_ret
    exact ⟨congrArg (fun z => Ending.returned (.bool z)) HE.out.symm, by first | rfl | trivial⟩
  · have HE : Hid (decide (oneK 5) = true) := by show _ = _; decide
    go_enter Tryd.func64, Tryd.ntmps64
    go_wp2_with fail
    refine (unhide HI _).mono ?_; rintro e w1 ⟨rfl, rfl⟩
    go_wp2
    go_ret
    exact ⟨congrArg (fun z => Ending.returned (.bool z)) HE.out.symm, by first | rfl | trivial⟩
  · have HE : Hid (decide (oneK 6) = true) := by show _ = _; decide
    go_enter Tryd.func64, Tryd.ntmps64
    go_wp2_with fail
    refine (unhide HI _).mono ?_; rintro e w1 ⟨rfl, rfl⟩
    go_wp2
    go_ret
    exact ⟨congrArg (fun z => Ending.returned (.bool z)) HE.out.symm, by first | rfl | trivial⟩
  · have HE : Hid (decide (oneK 7) = true) := by show _ = _; decide
    go_enter Tryd.func64, Tryd.ntmps64
    go_wp2_with fail
    refine (unhide HI _).mono ?_; rintro e w1 ⟨rfl, rfl⟩
    go_wp2
    go_ret
    exact ⟨congrArg (fun z => Ending.returned (.bool z)) HE.out.symm, by first | rfl | trivial⟩
  · have HE : Hid (decide (oneK 8) = true) := by show _ = _; decide
    go_enter Tryd.func64, Tryd.ntmps64
    go_wp2_with fail
    refine (unhide HI _).mono ?_; rintro e w1 ⟨rfl, rfl⟩
    go_wp2
    go_ret
    exact ⟨congrArg (fun z => Ending.returned (.bool z)) HE.out.symm, by first | rfl | trivial⟩
  · have HE : Hid (decide (oneK 9) = true) := by show _ = _; decide
    go_enter Tryd.func64, Tryd.ntmps64
    go_wp2_with fail
    refine (unhide HI _).mono ?_; rintro e w1 ⟨rfl, rfl⟩
    go_wp2
    go_ret
    exact ⟨congrArg (fun z => Ending.returned (.bool z)) HE.out.symm, by first | rfl | trivial⟩
  · have HE : Hid (decide (oneK 10) = true) := by show _ = _; decide
    go_enter Tryd.func64, Tryd.ntmps64
    go_wp2_with fail
    refine (unhide HI _).mono ?_; rintro e w1 ⟨rfl, rfl⟩
    go_wp2
    go_ret
    exact ⟨congrArg (fun z => Ending.returned (.bool z)) HE.out.symm, by first | rfl | trivial⟩
  · have HE : Hid (decide (oneK 11) = true) := by show _ = _; decide
    go_enter Tryd.func64, Tryd.ntmps64
    go_wp2_with fail
    refine (unhide HI _).mono ?_; rintro e w1 ⟨rfl, rfl⟩
    go_wp2
    go_ret
    exact ⟨congrArg (fun z => Ending.returned (.bool z)) HE.out.symm, by first | rfl | trivial⟩
  · have HE : Hid (decide (oneK k) = false) := by show _ = _; exact decide_eq_false (by omega)
    have HE2 : decide (twoK k) = false := decide_eq_false (by omega)
    have q3 : (k == 3) = false := beq_eq_false_iff_ne.2 h3
    have q4 : (k == 4) = false := beq_eq_false_iff_ne.2 h4
    have q5 : (k == 5) = false := beq_eq_false_iff_ne.2 h5
    have q6 : (k == 6) = false := beq_eq_false_iff_ne.2 h6
    have q7 : (k == 7) = false := beq_eq_false_iff_ne.2 h7
    have q8 : (k == 8) = false := beq_eq_false_iff_ne.2 h8
    have q9 : (k == 9) = false := beq_eq_false_iff_ne.2 h9
    have q10 : (k == 10) = false := beq_eq_false_iff_ne.2 h10
    have q11 : (k == 11) = false := beq_eq_false_iff_ne.2 h11
    rw [HE2] at HI
    go_enter Tryd.func64, Tryd.ntmps64
    go_wp2_with fail
    refine (unhide HI _).mono ?_; rintro e w1 ⟨rfl, rfl⟩
    go_wp2
    go_ret
    exact ⟨congrArg (fun z => Ending.returned (.bool z)) HE.out.symm, by first | rfl | trivial⟩
set_option maxHeartbeats 2000000 in
theorem l4Matches_calls (k : Int) (w : World) : Calls Tryd.prog 89 #[.int .i64 k] w fun e w' => e = .returned (.bool (decide (matK k))) ∧ w' = w := by
  have HI := hide (fun W => l4Two_calls k W)
  have hc : k = 3 ∨ k = 4 ∨ k = 5 ∨ k = 6 ∨ k = 7 ∨ k = 8 ∨ k = 9 ∨ k = 10 ∨ k = 11 ∨ (k ≠ 3 ∧ k ≠ 4 ∧ k ≠ 5 ∧ k ≠ 6 ∧ k ≠ 7 ∧ k ≠ 8 ∧ k ≠ 9 ∧ k ≠ 10 ∧ k ≠ 11) := by omega
  rcases hc with rfl | rfl | rfl | rfl | rfl | rfl | rfl | rfl | rfl | ⟨h3, h4, h5, h6, h7, h8, h9, h10, h11⟩
  · have HE : Hid (decide (matK 3) = false) := by show _ = _; decide
    go_enter Tryd.func89, Tryd.ntmps89
    go_wp2_with fail
    refine (unhide HI _).mono ?_; rintro e w1 ⟨rfl, rfl⟩
    go_wp2
    go_ret
    exact ⟨congrArg (fun z => Ending.returned (.bool z)) HE.out.symm, by first | rfl | trivial⟩
  · have HE : Hid (decide (matK 4) = false) := by show _ = _; decide
    go_enter Tryd.func89, Tryd.ntmps89
    go_wp2_with fail
    refine (unhide HI _).mono ?_; rintro e w1 ⟨rfl, rfl⟩
    go_wp2
    go_ret
    exact ⟨congrArg (fun z => Ending.returned (.bool z)) HE.out.symm, by first | rfl | trivial⟩
  · have HE : Hid (decide (matK 5) = true) := by show _ = _; decide
    go_enter Tryd.func89, Tryd.ntmps89
    go_wp2_with fail
    refine (unhide HI _).mono ?_; rintro e w1 ⟨rfl, rfl⟩
    go_wp2
    go_ret
    exact ⟨congrArg (fun z => Ending.returned (.bool z)) HE.out.symm, by first | rfl | trivial⟩
  · have HE : Hid (decide (matK 6) = true) := by show _ = _; decide
    go_enter Tryd.func89, Tryd.ntmps89
    go_wp2_with fail
    refine (unhide HI _).mono ?_; rintro e w1 ⟨rfl, rfl⟩
    go_wp2
    go_ret
    exact ⟨congrArg (fun z => Ending.returned (.bool z)) HE.out.symm, by first | rfl | trivial⟩
  · have HE : Hid (decide (matK 7) = true) := by show _ = _; decide
    go_enter Tryd.func89, Tryd.ntmps89
    go_wp2_with fail
    refine (unhide HI _).mono ?_; rintro e w1 ⟨rfl, rfl⟩
    go_wp2
    go_ret
    exact ⟨congrArg (fun z => Ending.returned (.bool z)) HE.out.symm, by first | rfl | trivial⟩
  · have HE : Hid (decide (matK 8) = false) := by show _ = _; decide
    go_enter Tryd.func89, Tryd.ntmps89
    go_wp2_with fail
    refine (unhide HI _).mono ?_; rintro e w1 ⟨rfl, rfl⟩
    go_wp2
    go_ret
    exact ⟨congrArg (fun z => Ending.returned (.bool z)) HE.out.symm, by first | rfl | trivial⟩
  · have HE : Hid (decide (matK 9) = false) := by show _ = _; decide
    go_enter Tryd.func89, Tryd.ntmps89
    go_wp2_with fail
    refine (unhide HI _).mono ?_; rintro e w1 ⟨rfl, rfl⟩
    go_wp2
    go_ret
    exact ⟨congrArg (fun z => Ending.returned (.bool z)) HE.out.symm, by first | rfl | trivial⟩
  · have HE : Hid (decide (matK 10) = true) := by show _ = _; decide
    go_enter Tryd.func89, Tryd.ntmps89
    go_wp2_with fail
    refine (unhide HI _).mono ?_; rintro e w1 ⟨rfl, rfl⟩
    go_wp2
    go_ret
    exact ⟨congrArg (fun z => Ending.returned (.bool z)) HE.out.symm, by first | rfl | trivial⟩
  · have HE : Hid (decide (matK 11) = true) := by show _ = _; decide
    go_enter Tryd.func89, Tryd.ntmps89
    go_wp2_with fail
    refine (unhide HI _).mono ?_; rintro e w1 ⟨rfl, rfl⟩
    go_wp2
    go_ret
    exact ⟨congrArg (fun z => Ending.returned (.bool z)) HE.out.symm, by first | rfl | trivial⟩
  · have HE : Hid (decide (matK k) = false) := by show _ = _; exact decide_eq_false (by omega)
    have HE2 : decide (twoK k) = false := decide_eq_false (by omega)
    have q3 : (k == 3) = false := beq_eq_false_iff_ne.2 h3
    have q4 : (k == 4) = false := beq_eq_false_iff_ne.2 h4
    have q5 : (k == 5) = false := beq_eq_false_iff_ne.2 h5
    have q6 : (k == 6) = false := beq_eq_false_iff_ne.2 h6
    have q7 : (k == 7) = false := beq_eq_false_iff_ne.2 h7
    have q8 : (k == 8) = false := beq_eq_false_iff_ne.2 h8
    have q9 : (k == 9) = false := beq_eq_false_iff_ne.2 h9
    have q10 : (k == 10) = false := beq_eq_false_iff_ne.2 h10
    have q11 : (k == 11) = false := beq_eq_false_iff_ne.2 h11
    rw [HE2] at HI
    go_enter Tryd.func89, Tryd.ntmps89
    go_wp2_with fail
    refine (unhide HI _).mono ?_; rintro e w1 ⟨rfl, rfl⟩
    go_wp2
    go_ret
    exact ⟨congrArg (fun z => Ending.returned (.bool z)) HE.out.symm, by first | rfl | trivial⟩
set_option maxHeartbeats 2000000 in
theorem l4UsesEx_calls (K T M Wd L R : Int) (v4 v5 : Value) (w : World) : Calls Tryd.prog 90 #[.agg #[.int .i64 K, .int .i64 T, .int .i64 M, .int .i64 Wd, v4, v5, .int .i64 L, .int .i64 R]] w fun e w' => e = .returned (.bool (decide (exK K M))) ∧ Below w.heap.size w w' := by
  have hc : K = 3 ∨ K = 6 ∨ K = 10 ∨ K = 11 ∨ K = 7 ∨ (K ≠ 3 ∧ K ≠ 6 ∧ K ≠ 10 ∧ K ≠ 11 ∧ K ≠ 7) := by omega
  rcases hc with rfl | rfl | rfl | rfl | rfl | ⟨h3, h6, h10, h11, h7⟩
  · have HE : Hid (decide (exK 3 M) = true) := by show _ = _; exact decide_eq_true (by unfold exK; omega)
    go_enter Tryd.func90, Tryd.ntmps90
    go_wp2
    go_ret
    exact ⟨congrArg (fun z => Ending.returned (.bool z)) HE.out.symm, bA (Below.refl _ _) _⟩
  · have HE : Hid (decide (exK 6 M) = true) := by show _ = _; exact decide_eq_true (by unfold exK; omega)
    go_enter Tryd.func90, Tryd.ntmps90
    go_wp2
    go_ret
    exact ⟨congrArg (fun z => Ending.returned (.bool z)) HE.out.symm, bA (Below.refl _ _) _⟩
  · have HE : Hid (decide (exK 10 M) = true) := by show _ = _; exact decide_eq_true (by unfold exK; omega)
    go_enter Tryd.func90, Tryd.ntmps90
    go_wp2
    go_ret
    exact ⟨congrArg (fun z => Ending.returned (.bool z)) HE.out.symm, bA (Below.refl _ _) _⟩
  · have HE : Hid (decide (exK 11 M) = true) := by show _ = _; exact decide_eq_true (by unfold exK; omega)
    go_enter Tryd.func90, Tryd.ntmps90
    go_wp2
    go_ret
    exact ⟨congrArg (fun z => Ending.returned (.bool z)) HE.out.symm, bA (Below.refl _ _) _⟩
  · by_cases hM : M = 1
    · subst hM
      have HE : Hid (decide (exK 7 1) = false) := by show _ = _; decide
      go_enter Tryd.func90, Tryd.ntmps90
      go_wp2
      go_ret
      exact ⟨congrArg (fun z => Ending.returned (.bool z)) HE.out.symm, bA (Below.refl _ _) _⟩
    · have hM' : (M != 1) = true := by simp [hM]
      have HE : Hid (decide (exK 7 M) = true) := by show _ = _; exact decide_eq_true (by unfold exK; omega)
      go_enter Tryd.func90, Tryd.ntmps90
      go_wp2
      go_ret
      exact ⟨congrArg (fun z => Ending.returned (.bool z)) HE.out.symm, bA (Below.refl _ _) _⟩
  · have HE : Hid (decide (exK K M) = false) := by show _ = _; exact decide_eq_false (by unfold exK; omega)
    have q3 : (K == 3) = false := beq_eq_false_iff_ne.2 h3
    have q6 : (K == 6) = false := beq_eq_false_iff_ne.2 h6
    have q10 : (K == 10) = false := beq_eq_false_iff_ne.2 h10
    have q11 : (K == 11) = false := beq_eq_false_iff_ne.2 h11
    have q7 : (K == 7) = false := beq_eq_false_iff_ne.2 h7
    go_enter Tryd.func90, Tryd.ntmps90
    go_wp2
    go_ret
    exact ⟨congrArg (fun z => Ending.returned (.bool z)) HE.out.symm, bA (Below.refl _ _) _⟩
end Go.Proofs.YtkdeilhkobcglaaDoor
