/-
  THE FIELDS OF A PLAN's NODE, as the specification judges them: a field that is not used is 0 or empty.
-/
import Derived.Test.YtahanplikbdccaaDoorSpecPlan
import Derived.Test.YtahanplikbdccaaDoorAstFit
namespace Go.Proofs.YtahanplikbdccaaDoor
open Go Go.RowKit

def insideW (k env left : Int) : Int := if k = 6 ∨ k = 7 ∨ k = 8 then env + left else env
theorem l3Inside_calls (k env left : Int) (w : World) (h1 : -4503599627370496 ≤ env) (h2 : env ≤ 4503599627370496) (h3 : -4503599627370496 ≤ left) (h4 : left ≤ 4503599627370496) :
    Calls Tryd.prog 43 #[.int .i64 k, .int .i64 env, .int .i64 left] w fun e w' => e = .returned (.int .i64 (insideW k env left)) ∧ w' = w := by
  by_cases hK : k = 6 ∨ k = 7 ∨ k = 8
  · have HE : Hid (insideW k env left = env + left) := by
      show _ = _
      unfold insideW
      rw [if_pos hK]
    rcases hK with rfl | rfl | rfl
    all_goals
      go_enter Tryd.func43, Tryd.ntmps43
      go_wp2
      go_ret
      exact ⟨congrArg (fun z => Ending.returned (.int .i64 z)) HE.out.symm, rfl⟩
  · have HE : Hid (insideW k env left = env) := by
      show _ = _
      unfold insideW
      rw [if_neg hK]
    have k6 : (k == 6) = false := beq_eq_false_iff_ne.2 (by omega)
    have k7 : (k == 7) = false := beq_eq_false_iff_ne.2 (by omega)
    have k8 : (k == 8) = false := beq_eq_false_iff_ne.2 (by omega)
    clear hK
    go_enter Tryd.func43, Tryd.ntmps43
    go_wp2
    go_ret
    exact ⟨congrArg (fun z => Ending.returned (.int .i64 z)) HE.out.symm, rfl⟩

def usedP (nt : Nat) (K T M : Int) (le ls : Nat) : Prop :=
  (K ≠ 2 → T = 0) ∧ (K = 2 → 0 ≤ T ∧ T < (nt : Int)) ∧ (K ≠ 8 → M = 0) ∧ (K = 8 → 1 ≤ M ∧ M ≤ 4) ∧ (K = 3 ∨ K = 7 ∨ (K = 8 ∧ M ≠ 1) ∨ le = 0) ∧ (K = 4 ∨ ls = 0)

set_option maxHeartbeats 4000000 in
theorem l3Used_calls (nt : Nat) (K T M L R : Int) (le ls : Nat) (a3 a4 : _) (c3 c4 g cap : Nat) (w : World) (b2 : le ≤ 1048576) (b3 : ls ≤ 1048576) :
    Calls Tryd.prog 42 #[.agg #[.int .i64 K, .int .i64 T, .int .i64 M, .slice a3 le c3, .slice a4 ls c4, .int .i64 L, .int .i64 R], .agg #[.slice (some ⟨g, 0, none⟩) nt cap]] w
      fun e w' => e = .returned (.bool (dB (usedP nt K T M le ls))) ∧ Below w.heap.size w w' := by
  have hc : K = 2 ∨ K = 3 ∨ K = 4 ∨ K = 7 ∨ K = 8 ∨ (K ≠ 2 ∧ K ≠ 3 ∧ K ≠ 4 ∧ K ≠ 7 ∧ K ≠ 8) := by omega
  rcases hc with rfl | rfl | rfl | rfl | rfl | ⟨k2, k3, k4, k7, k8⟩
  · by_cases t1 : T < 0
    · have HE : Hid (dB (usedP nt 2 T M le ls) = false) := dB_false (by (try simp at *); unfold usedP; omega)
      go_enter Tryd.func42, Tryd.ntmps42
      go_wp2
      go_ret
      exact ⟨congrArg (fun z => Ending.returned (.bool z)) HE.out.symm, bA (bA (Below.refl _ _) _) _⟩
    · by_cases t2 : T < (nt : Int)
      · cases bM : (M != 0)
        · cases bE : ((le : Int) != 0)
          · cases bS : ((ls : Int) == 0)
            · have HE : Hid (dB (usedP nt 2 T M le ls) = false) := dB_false (by (try simp at *); unfold usedP; omega)
              go_enter Tryd.func42, Tryd.ntmps42
              go_wp2
              go_ret
              exact ⟨congrArg (fun z => Ending.returned (.bool z)) HE.out.symm, bA (bA (Below.refl _ _) _) _⟩
            · have HE : Hid (dB (usedP nt 2 T M le ls) = true) := dB_true (by (try simp at *); unfold usedP; omega)
              go_enter Tryd.func42, Tryd.ntmps42
              go_wp2
              go_ret
              exact ⟨congrArg (fun z => Ending.returned (.bool z)) HE.out.symm, bA (bA (Below.refl _ _) _) _⟩
          · have HE : Hid (dB (usedP nt 2 T M le ls) = false) := dB_false (by (try simp at *); unfold usedP; omega)
            go_enter Tryd.func42, Tryd.ntmps42
            go_wp2
            go_ret
            exact ⟨congrArg (fun z => Ending.returned (.bool z)) HE.out.symm, bA (bA (Below.refl _ _) _) _⟩
        · have HE : Hid (dB (usedP nt 2 T M le ls) = false) := dB_false (by (try simp at *); unfold usedP; omega)
          go_enter Tryd.func42, Tryd.ntmps42
          go_wp2
          go_ret
          exact ⟨congrArg (fun z => Ending.returned (.bool z)) HE.out.symm, bA (bA (Below.refl _ _) _) _⟩
      · have HE : Hid (dB (usedP nt 2 T M le ls) = false) := dB_false (by (try simp at *); unfold usedP; omega)
        go_enter Tryd.func42, Tryd.ntmps42
        go_wp2
        go_ret
        exact ⟨congrArg (fun z => Ending.returned (.bool z)) HE.out.symm, bA (bA (Below.refl _ _) _) _⟩
  · cases bT : (T != 0)
    · cases bM : (M != 0)
      · cases bS : ((ls : Int) == 0)
        · have HE : Hid (dB (usedP nt 3 T M le ls) = false) := dB_false (by (try simp at *); unfold usedP; omega)
          go_enter Tryd.func42, Tryd.ntmps42
          go_wp2
          go_ret
          exact ⟨congrArg (fun z => Ending.returned (.bool z)) HE.out.symm, bA (bA (Below.refl _ _) _) _⟩
        · have HE : Hid (dB (usedP nt 3 T M le ls) = true) := dB_true (by (try simp at *); unfold usedP; omega)
          go_enter Tryd.func42, Tryd.ntmps42
          go_wp2
          go_ret
          exact ⟨congrArg (fun z => Ending.returned (.bool z)) HE.out.symm, bA (bA (Below.refl _ _) _) _⟩
      · have HE : Hid (dB (usedP nt 3 T M le ls) = false) := dB_false (by (try simp at *); unfold usedP; omega)
        go_enter Tryd.func42, Tryd.ntmps42
        go_wp2
        go_ret
        exact ⟨congrArg (fun z => Ending.returned (.bool z)) HE.out.symm, bA (bA (Below.refl _ _) _) _⟩
    · have HE : Hid (dB (usedP nt 3 T M le ls) = false) := dB_false (by (try simp at *); unfold usedP; omega)
      go_enter Tryd.func42, Tryd.ntmps42
      go_wp2
      go_ret
      exact ⟨congrArg (fun z => Ending.returned (.bool z)) HE.out.symm, bA (bA (Below.refl _ _) _) _⟩
  · cases bT : (T != 0)
    · cases bM : (M != 0)
      · cases bE : ((le : Int) != 0)
        · have HE : Hid (dB (usedP nt 4 T M le ls) = true) := dB_true (by (try simp at *); unfold usedP; omega)
          go_enter Tryd.func42, Tryd.ntmps42
          go_wp2
          go_ret
          exact ⟨congrArg (fun z => Ending.returned (.bool z)) HE.out.symm, bA (bA (Below.refl _ _) _) _⟩
        · have HE : Hid (dB (usedP nt 4 T M le ls) = false) := dB_false (by (try simp at *); unfold usedP; omega)
          go_enter Tryd.func42, Tryd.ntmps42
          go_wp2
          go_ret
          exact ⟨congrArg (fun z => Ending.returned (.bool z)) HE.out.symm, bA (bA (Below.refl _ _) _) _⟩
      · have HE : Hid (dB (usedP nt 4 T M le ls) = false) := dB_false (by (try simp at *); unfold usedP; omega)
        go_enter Tryd.func42, Tryd.ntmps42
        go_wp2
        go_ret
        exact ⟨congrArg (fun z => Ending.returned (.bool z)) HE.out.symm, bA (bA (Below.refl _ _) _) _⟩
    · have HE : Hid (dB (usedP nt 4 T M le ls) = false) := dB_false (by (try simp at *); unfold usedP; omega)
      go_enter Tryd.func42, Tryd.ntmps42
      go_wp2
      go_ret
      exact ⟨congrArg (fun z => Ending.returned (.bool z)) HE.out.symm, bA (bA (Below.refl _ _) _) _⟩
  · cases bT : (T != 0)
    · cases bM : (M != 0)
      · cases bS : ((ls : Int) == 0)
        · have HE : Hid (dB (usedP nt 7 T M le ls) = false) := dB_false (by (try simp at *); unfold usedP; omega)
          go_enter Tryd.func42, Tryd.ntmps42
          go_wp2
          go_ret
          exact ⟨congrArg (fun z => Ending.returned (.bool z)) HE.out.symm, bA (bA (Below.refl _ _) _) _⟩
        · have HE : Hid (dB (usedP nt 7 T M le ls) = true) := dB_true (by (try simp at *); unfold usedP; omega)
          go_enter Tryd.func42, Tryd.ntmps42
          go_wp2
          go_ret
          exact ⟨congrArg (fun z => Ending.returned (.bool z)) HE.out.symm, bA (bA (Below.refl _ _) _) _⟩
      · have HE : Hid (dB (usedP nt 7 T M le ls) = false) := dB_false (by (try simp at *); unfold usedP; omega)
        go_enter Tryd.func42, Tryd.ntmps42
        go_wp2
        go_ret
        exact ⟨congrArg (fun z => Ending.returned (.bool z)) HE.out.symm, bA (bA (Below.refl _ _) _) _⟩
    · have HE : Hid (dB (usedP nt 7 T M le ls) = false) := dB_false (by (try simp at *); unfold usedP; omega)
      go_enter Tryd.func42, Tryd.ntmps42
      go_wp2
      go_ret
      exact ⟨congrArg (fun z => Ending.returned (.bool z)) HE.out.symm, bA (bA (Below.refl _ _) _) _⟩
  · cases bT : (T != 0)
    · by_cases m1 : M < 1
      · have HE : Hid (dB (usedP nt 8 T M le ls) = false) := dB_false (by (try simp at *); unfold usedP; omega)
        go_enter Tryd.func42, Tryd.ntmps42
        go_wp2
        go_ret
        exact ⟨congrArg (fun z => Ending.returned (.bool z)) HE.out.symm, bA (bA (Below.refl _ _) _) _⟩
      · by_cases m2 : 4 < M
        · have HE : Hid (dB (usedP nt 8 T M le ls) = false) := dB_false (by (try simp at *); unfold usedP; omega)
          go_enter Tryd.func42, Tryd.ntmps42
          go_wp2
          go_ret
          exact ⟨congrArg (fun z => Ending.returned (.bool z)) HE.out.symm, bA (bA (Below.refl _ _) _) _⟩
        · cases b1' : (M != 1)
          · cases bE : ((le : Int) != 0)
            · cases bS : ((ls : Int) == 0)
              · have HE : Hid (dB (usedP nt 8 T M le ls) = false) := dB_false (by (try simp at *); unfold usedP; omega)
                go_enter Tryd.func42, Tryd.ntmps42
                go_wp2
                go_ret
                exact ⟨congrArg (fun z => Ending.returned (.bool z)) HE.out.symm, bA (bA (Below.refl _ _) _) _⟩
              · have HE : Hid (dB (usedP nt 8 T M le ls) = true) := dB_true (by (try simp at *); unfold usedP; omega)
                go_enter Tryd.func42, Tryd.ntmps42
                go_wp2
                go_ret
                exact ⟨congrArg (fun z => Ending.returned (.bool z)) HE.out.symm, bA (bA (Below.refl _ _) _) _⟩
            · have HE : Hid (dB (usedP nt 8 T M le ls) = false) := dB_false (by (try simp at *); unfold usedP; omega)
              go_enter Tryd.func42, Tryd.ntmps42
              go_wp2
              go_ret
              exact ⟨congrArg (fun z => Ending.returned (.bool z)) HE.out.symm, bA (bA (Below.refl _ _) _) _⟩
          · cases bS : ((ls : Int) == 0)
            · have HE : Hid (dB (usedP nt 8 T M le ls) = false) := dB_false (by (try simp at *); unfold usedP; omega)
              go_enter Tryd.func42, Tryd.ntmps42
              go_wp2
              go_ret
              exact ⟨congrArg (fun z => Ending.returned (.bool z)) HE.out.symm, bA (bA (Below.refl _ _) _) _⟩
            · have HE : Hid (dB (usedP nt 8 T M le ls) = true) := dB_true (by (try simp at *); unfold usedP; omega)
              go_enter Tryd.func42, Tryd.ntmps42
              go_wp2
              go_ret
              exact ⟨congrArg (fun z => Ending.returned (.bool z)) HE.out.symm, bA (bA (Below.refl _ _) _) _⟩
    · have HE : Hid (dB (usedP nt 8 T M le ls) = false) := dB_false (by (try simp at *); unfold usedP; omega)
      go_enter Tryd.func42, Tryd.ntmps42
      go_wp2
      go_ret
      exact ⟨congrArg (fun z => Ending.returned (.bool z)) HE.out.symm, bA (bA (Below.refl _ _) _) _⟩
  · have q2 : (K == 2) = false := beq_eq_false_iff_ne.2 k2; have q3 : (K == 3) = false := beq_eq_false_iff_ne.2 k3; have q4 : (K == 4) = false := beq_eq_false_iff_ne.2 k4; have q7 : (K == 7) = false := beq_eq_false_iff_ne.2 k7; have q8 : (K == 8) = false := beq_eq_false_iff_ne.2 k8; have q9 : (K != 8) = true := by simp [k8]
    cases bT : (T != 0)
    · cases bM : (M != 0)
      · cases bE : ((le : Int) != 0)
        · cases bS : ((ls : Int) == 0)
          · have HE : Hid (dB (usedP nt K T M le ls) = false) := dB_false (by (try simp at *); unfold usedP; omega)
            go_enter Tryd.func42, Tryd.ntmps42
            go_wp2
            go_ret
            exact ⟨congrArg (fun z => Ending.returned (.bool z)) HE.out.symm, bA (bA (Below.refl _ _) _) _⟩
          · have HE : Hid (dB (usedP nt K T M le ls) = true) := dB_true (by (try simp at *); unfold usedP; omega)
            go_enter Tryd.func42, Tryd.ntmps42
            go_wp2
            go_ret
            exact ⟨congrArg (fun z => Ending.returned (.bool z)) HE.out.symm, bA (bA (Below.refl _ _) _) _⟩
        · have HE : Hid (dB (usedP nt K T M le ls) = false) := dB_false (by (try simp at *); unfold usedP; omega)
          go_enter Tryd.func42, Tryd.ntmps42
          go_wp2
          go_ret
          exact ⟨congrArg (fun z => Ending.returned (.bool z)) HE.out.symm, bA (bA (Below.refl _ _) _) _⟩
      · have HE : Hid (dB (usedP nt K T M le ls) = false) := dB_false (by (try simp at *); unfold usedP; omega)
        go_enter Tryd.func42, Tryd.ntmps42
        go_wp2
        go_ret
        exact ⟨congrArg (fun z => Ending.returned (.bool z)) HE.out.symm, bA (bA (Below.refl _ _) _) _⟩
    · have HE : Hid (dB (usedP nt K T M le ls) = false) := dB_false (by (try simp at *); unfold usedP; omega)
      go_enter Tryd.func42, Tryd.ntmps42
      go_wp2
      go_ret
      exact ⟨congrArg (fun z => Ending.returned (.bool z)) HE.out.symm, bA (bA (Below.refl _ _) _) _⟩
end Go.Proofs.YtahanplikbdccaaDoor
