/-
  A NODE's FORM, as the specification asks for it.
-/
import Derived.Test.YtnjnonmpfalfeabDoorSpecKinds
import Derived.Test.YtnjnonmpfalfeabDoorSpecFns2
namespace Go.Proofs.YtnjnonmpfalfeabDoor
open Go Go.RowKit

set_option maxHeartbeats 8000000 in
set_option maxRecDepth 100000 in
theorem nodeOkX (K N M : Int) (S T : ByteArray) (ks : List Int) (kg kl : Nat) (kd : List Int) (q : ByteArray) (g cap len i : Nat) (w : World) (_ : g < w.heap.size) (_ : (i : Int) < (len : Int)) (hq : q.toList = kd.map ltr)
    (_ : q.size ≤ 1048576) (_ : S.size ≤ 1048576) (_ : T.size ≤ 1048576)
    (_ : w.cell? ⟨g, i * 6, none⟩ = some (.int .i64 K)) (_ : w.cell? ⟨g, i * 6 + 1, none⟩ = some (.int .i64 N)) (_ : w.cell? ⟨g, i * 6 + 2, none⟩ = some (.int .i64 M))
    (_ : w.cell? ⟨g, i * 6 + 3, none⟩ = some (.string S)) (_ : w.cell? ⟨g, i * 6 + 4, none⟩ = some (.string T)) (_ : w.cell? ⟨g, i * 6 + 5, none⟩ = some (.slice (some ⟨kg, 0, none⟩) kl kl))
    (KC : Hid (∀ W, Below w.heap.size w W → Calls Tryd.prog 59 #[.slice (some ⟨g, 0, none⟩) len cap, .int .i64 (i : Int)] W fun e w' => e = .returned (.string q) ∧ w' = W)) (hK : K < 1 ∨ 15 < K) :
    Calls Tryd.prog 42 #[.slice (some ⟨g, 0, none⟩) len cap, .int .i64 (i : Int)] w fun e w' => e = .returned (.bool (dB (FitS ⟨K, N, M, S, T, ks⟩ kd))) ∧ Below w.heap.size w w' := by
  have k1 : (K == 1) = false := beq_eq_false_iff_ne.2 (by omega)
  have k2 : (K == 2) = false := beq_eq_false_iff_ne.2 (by omega)
  have k3 : (K == 3) = false := beq_eq_false_iff_ne.2 (by omega)
  have k4 : (K == 4) = false := beq_eq_false_iff_ne.2 (by omega)
  have k5 : (K == 5) = false := beq_eq_false_iff_ne.2 (by omega)
  have k6 : (K == 6) = false := beq_eq_false_iff_ne.2 (by omega)
  have k7 : (K == 7) = false := beq_eq_false_iff_ne.2 (by omega)
  have k8 : (K == 8) = false := beq_eq_false_iff_ne.2 (by omega)
  have k9 : (K == 9) = false := beq_eq_false_iff_ne.2 (by omega)
  have k10 : (K == 10) = false := beq_eq_false_iff_ne.2 (by omega)
  have k11 : (K == 11) = false := beq_eq_false_iff_ne.2 (by omega)
  have k12 : (K == 12) = false := beq_eq_false_iff_ne.2 (by omega)
  have k13 : (K == 13) = false := beq_eq_false_iff_ne.2 (by omega)
  have k14 : (K == 14) = false := beq_eq_false_iff_ne.2 (by omega)
  have k15 : (K == 15) = false := beq_eq_false_iff_ne.2 (by omega)
  cases bS : (S.toList == ([] : List UInt8))
  · have HE : Hid (dB (FitS ⟨K, N, M, S, T, ks⟩ kd) = false) := dB_false (fun h => by simp [FitS, ← hq] at h <;> grind)
    clear hq
    go_enter Tryd.func42, Tryd.ntmps42
    go_wp2_with fail
    refine (KC.out _ (by (repeat (first | exact Below.refl _ _ | refine bA ?_ _ | refine Below.setCell ?_ (by simp) _)))).mono ?_; rintro e w1 ⟨rfl, rfl⟩
    go_wp2
    go_ret
    exact ⟨congrArg (fun z => Ending.returned (.bool z)) HE.out.symm, (by (repeat (first | exact Below.refl _ _ | refine bA ?_ _ | refine Below.setCell ?_ (by simp) _)))⟩
  cases bT : (T.toList == ([] : List UInt8))
  · have HE : Hid (dB (FitS ⟨K, N, M, S, T, ks⟩ kd) = false) := dB_false (fun h => by simp [FitS, ← hq] at h <;> grind)
    clear hq
    go_enter Tryd.func42, Tryd.ntmps42
    go_wp2_with fail
    refine (KC.out _ (by (repeat (first | exact Below.refl _ _ | refine bA ?_ _ | refine Below.setCell ?_ (by simp) _)))).mono ?_; rintro e w1 ⟨rfl, rfl⟩
    go_wp2
    go_ret
    exact ⟨congrArg (fun z => Ending.returned (.bool z)) HE.out.symm, (by (repeat (first | exact Below.refl _ _ | refine bA ?_ _ | refine Below.setCell ?_ (by simp) _)))⟩
  cases bN : (N == 0)
  · have HE : Hid (dB (FitS ⟨K, N, M, S, T, ks⟩ kd) = false) := dB_false (fun h => by simp [FitS, ← hq] at h <;> grind)
    clear hq
    go_enter Tryd.func42, Tryd.ntmps42
    go_wp2_with fail
    refine (KC.out _ (by (repeat (first | exact Below.refl _ _ | refine bA ?_ _ | refine Below.setCell ?_ (by simp) _)))).mono ?_; rintro e w1 ⟨rfl, rfl⟩
    go_wp2
    go_ret
    exact ⟨congrArg (fun z => Ending.returned (.bool z)) HE.out.symm, (by (repeat (first | exact Below.refl _ _ | refine bA ?_ _ | refine Below.setCell ?_ (by simp) _)))⟩
  obtain rfl : N = 0 := by simpa using bN
  cases bM : (M == 0)
  · have HE : Hid (dB (FitS ⟨K, 0, M, S, T, ks⟩ kd) = false) := dB_false (fun h => by simp [FitS, ← hq] at h <;> grind)
    clear hq
    go_enter Tryd.func42, Tryd.ntmps42
    go_wp2_with fail
    refine (KC.out _ (by (repeat (first | exact Below.refl _ _ | refine bA ?_ _ | refine Below.setCell ?_ (by simp) _)))).mono ?_; rintro e w1 ⟨rfl, rfl⟩
    go_wp2
    go_ret
    exact ⟨congrArg (fun z => Ending.returned (.bool z)) HE.out.symm, (by (repeat (first | exact Below.refl _ _ | refine bA ?_ _ | refine Below.setCell ?_ (by simp) _)))⟩
  obtain rfl : M = 0 := by simpa using bM
  · have HE : Hid (dB (FitS ⟨K, 0, 0, S, T, ks⟩ kd) = false) := dB_false (fun h => by simp [FitS, ← hq] at h <;> grind)
    clear hq
    go_enter Tryd.func42, Tryd.ntmps42
    go_wp2_with fail
    refine (KC.out _ (by (repeat (first | exact Below.refl _ _ | refine bA ?_ _ | refine Below.setCell ?_ (by simp) _)))).mono ?_; rintro e w1 ⟨rfl, rfl⟩
    go_wp2
    go_ret
    exact ⟨congrArg (fun z => Ending.returned (.bool z)) HE.out.symm, (by (repeat (first | exact Below.refl _ _ | refine bA ?_ _ | refine Below.setCell ?_ (by simp) _)))⟩
end Go.Proofs.YtnjnonmpfalfeabDoor
