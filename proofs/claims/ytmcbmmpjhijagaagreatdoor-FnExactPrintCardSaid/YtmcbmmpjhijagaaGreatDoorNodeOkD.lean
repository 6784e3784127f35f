import Derived.Test.YtmcbmmpjhijagaaGreatDoorQ33
import Derived.Test.YtmcbmmpjhijagaaGreatDoorQ40
namespace Go.Proofs.YtmcbmmpjhijagaaGreatDoor
open Go Go.RowKit
set_option maxHeartbeats 8000000 in
set_option maxRecDepth 100000 in
theorem nodeOk11 (N M : Int) (S T : ByteArray) (ks : List Int) (kg kl : Nat) (kd : List Int) (q : ByteArray) (g cap len i : Nat) (w : World) (_ : g < w.heap.size) (_ : (i : Int) < (len : Int)) (hq : q.toList = kd.map ltr)
    (_ : q.size ≤ 1048576) (_ : S.size ≤ 1048576) (_ : T.size ≤ 1048576)
    (_ : w.cell? ⟨g, i * 6, none⟩ = some (.int .i64 11)) (_ : w.cell? ⟨g, i * 6 + 1, none⟩ = some (.int .i64 N)) (_ : w.cell? ⟨g, i * 6 + 2, none⟩ = some (.int .i64 M))
    (_ : w.cell? ⟨g, i * 6 + 3, none⟩ = some (.string S)) (_ : w.cell? ⟨g, i * 6 + 4, none⟩ = some (.string T)) (_ : w.cell? ⟨g, i * 6 + 5, none⟩ = some (.slice (some ⟨kg, 0, none⟩) kl kl))
    (KC : Hid (∀ W, Below w.heap.size w W → Calls Tryz.prog 51 #[.slice (some ⟨g, 0, none⟩) len cap, .int .i64 (i : Int)] W fun e w' => e = .returned (.string q) ∧ w' = W)) :
    Calls Tryz.prog 20 #[.slice (some ⟨g, 0, none⟩) len cap, .int .i64 (i : Int)] w fun e w' => e = .returned (.bool (dB (FitS ⟨11, N, M, S, T, ks⟩ kd))) ∧ Below w.heap.size w w' := by
  cases bS : (S.toList == ([] : List UInt8))
  · have HE : Hid (dB (FitS ⟨11, N, M, S, T, ks⟩ kd) = false) := dB_false (fun h => by simp [FitS, ← hq] at h <;> grind)
    clear hq
    go_enter Tryz.func20, Tryz.ntmps20
    go_wp2_with fail
    refine (KC.out _ (by (repeat (first | exact Below.refl _ _ | refine bA ?_ _ | refine Below.setCell ?_ (by simp) _)))).mono ?_; rintro e w1 ⟨rfl, rfl⟩
    go_wp2
    go_ret
    exact ⟨congrArg (fun z => Ending.returned (.bool z)) HE.out.symm, (by (repeat (first | exact Below.refl _ _ | refine bA ?_ _ | refine Below.setCell ?_ (by simp) _)))⟩
  cases bT : (T.toList == ([] : List UInt8))
  · have HE : Hid (dB (FitS ⟨11, N, M, S, T, ks⟩ kd) = false) := dB_false (fun h => by simp [FitS, ← hq] at h <;> grind)
    clear hq
    go_enter Tryz.func20, Tryz.ntmps20
    go_wp2_with fail
    refine (KC.out _ (by (repeat (first | exact Below.refl _ _ | refine bA ?_ _ | refine Below.setCell ?_ (by simp) _)))).mono ?_; rintro e w1 ⟨rfl, rfl⟩
    go_wp2
    go_ret
    exact ⟨congrArg (fun z => Ending.returned (.bool z)) HE.out.symm, (by (repeat (first | exact Below.refl _ _ | refine bA ?_ _ | refine Below.setCell ?_ (by simp) _)))⟩
  cases bN : (N == 0)
  · have HE : Hid (dB (FitS ⟨11, N, M, S, T, ks⟩ kd) = false) := dB_false (fun h => by simp [FitS, ← hq] at h <;> grind)
    clear hq
    go_enter Tryz.func20, Tryz.ntmps20
    go_wp2_with fail
    refine (KC.out _ (by (repeat (first | exact Below.refl _ _ | refine bA ?_ _ | refine Below.setCell ?_ (by simp) _)))).mono ?_; rintro e w1 ⟨rfl, rfl⟩
    go_wp2
    go_ret
    exact ⟨congrArg (fun z => Ending.returned (.bool z)) HE.out.symm, (by (repeat (first | exact Below.refl _ _ | refine bA ?_ _ | refine Below.setCell ?_ (by simp) _)))⟩
  obtain rfl : N = 0 := by simpa using bN
  rcases (show M = 0 ∨ M = 1 ∨ (2 ≤ M ∧ M ≤ 4) ∨ (5 ≤ M ∧ M ≤ 6) ∨ M < 0 ∨ 6 < M from by omega) with rfl | rfl | ⟨hM1, hM2⟩ | ⟨hM1, hM2⟩ | hM1 | hM1
  · skip
    · have HE : Hid (dB (FitS ⟨11, 0, 0, S, T, ks⟩ kd) = (q.toList == ([115, 113] : List UInt8))) := by show _ = _; rw [Bool.eq_iff_iff, dB_iff]; simp [FitS, ← hq] <;> grind
      clear hq
      go_enter Tryz.func20, Tryz.ntmps20
      go_wp2_with fail
      refine (KC.out _ (by (repeat (first | exact Below.refl _ _ | refine bA ?_ _ | refine Below.setCell ?_ (by simp) _)))).mono ?_; rintro e w1 ⟨rfl, rfl⟩
      go_wp2
      go_ret
      exact ⟨congrArg (fun z => Ending.returned (.bool z)) HE.out.symm, (by (repeat (first | exact Below.refl _ _ | refine bA ?_ _ | refine Below.setCell ?_ (by simp) _)))⟩
  · skip
    · have HE : Hid (dB (FitS ⟨11, 0, 1, S, T, ks⟩ kd) = (q.toList == ([115, 113] : List UInt8))) := by show _ = _; rw [Bool.eq_iff_iff, dB_iff]; simp [FitS, ← hq] <;> grind
      clear hq
      go_enter Tryz.func20, Tryz.ntmps20
      go_wp2_with fail
      refine (KC.out _ (by (repeat (first | exact Below.refl _ _ | refine bA ?_ _ | refine Below.setCell ?_ (by simp) _)))).mono ?_; rintro e w1 ⟨rfl, rfl⟩
      go_wp2
      go_ret
      exact ⟨congrArg (fun z => Ending.returned (.bool z)) HE.out.symm, (by (repeat (first | exact Below.refl _ _ | refine bA ?_ _ | refine Below.setCell ?_ (by simp) _)))⟩
  · have m0 : (M == 0) = false := beq_eq_false_iff_ne.2 (by omega)
    have m1 : (M == 1) = false := beq_eq_false_iff_ne.2 (by omega)
    have m2 : 1 ≤ M := by omega
    have m3 : M ≤ 6 := by omega
    · have HE : Hid (dB (FitS ⟨11, 0, M, S, T, ks⟩ kd) = false) := dB_false (fun h => by simp [FitS, ← hq] at h <;> grind)
      clear hq
      go_enter Tryz.func20, Tryz.ntmps20
      go_wp2_with fail
      refine (KC.out _ (by (repeat (first | exact Below.refl _ _ | refine bA ?_ _ | refine Below.setCell ?_ (by simp) _)))).mono ?_; rintro e w1 ⟨rfl, rfl⟩
      go_wp2
      go_ret
      exact ⟨congrArg (fun z => Ending.returned (.bool z)) HE.out.symm, (by (repeat (first | exact Below.refl _ _ | refine bA ?_ _ | refine Below.setCell ?_ (by simp) _)))⟩
  · have m0 : (M == 0) = false := beq_eq_false_iff_ne.2 (by omega)
    have m1 : (M == 1) = false := beq_eq_false_iff_ne.2 (by omega)
    have m2 : 1 ≤ M := by omega
    have m3 : M ≤ 6 := by omega
    · have HE : Hid (dB (FitS ⟨11, 0, M, S, T, ks⟩ kd) = false) := dB_false (fun h => by simp [FitS, ← hq] at h <;> grind)
      clear hq
      go_enter Tryz.func20, Tryz.ntmps20
      go_wp2_with fail
      refine (KC.out _ (by (repeat (first | exact Below.refl _ _ | refine bA ?_ _ | refine Below.setCell ?_ (by simp) _)))).mono ?_; rintro e w1 ⟨rfl, rfl⟩
      go_wp2
      go_ret
      exact ⟨congrArg (fun z => Ending.returned (.bool z)) HE.out.symm, (by (repeat (first | exact Below.refl _ _ | refine bA ?_ _ | refine Below.setCell ?_ (by simp) _)))⟩
  · have m0 : (M == 0) = false := beq_eq_false_iff_ne.2 (by omega)
    have m1 : (M == 1) = false := beq_eq_false_iff_ne.2 (by omega)
    have m2 : ¬ 1 ≤ M := by omega
    have m3 : M ≤ 6 := by omega
    · have HE : Hid (dB (FitS ⟨11, 0, M, S, T, ks⟩ kd) = false) := dB_false (fun h => by simp [FitS, ← hq] at h <;> grind)
      clear hq
      go_enter Tryz.func20, Tryz.ntmps20
      go_wp2_with fail
      refine (KC.out _ (by (repeat (first | exact Below.refl _ _ | refine bA ?_ _ | refine Below.setCell ?_ (by simp) _)))).mono ?_; rintro e w1 ⟨rfl, rfl⟩
      go_wp2
      go_ret
      exact ⟨congrArg (fun z => Ending.returned (.bool z)) HE.out.symm, (by (repeat (first | exact Below.refl _ _ | refine bA ?_ _ | refine Below.setCell ?_ (by simp) _)))⟩
  · have m0 : (M == 0) = false := beq_eq_false_iff_ne.2 (by omega)
    have m1 : (M == 1) = false := beq_eq_false_iff_ne.2 (by omega)
    have m2 : 1 ≤ M := by omega
    have m3 : ¬ M ≤ 6 := by omega
    · have HE : Hid (dB (FitS ⟨11, 0, M, S, T, ks⟩ kd) = false) := dB_false (fun h => by simp [FitS, ← hq] at h <;> grind)
      clear hq
      go_enter Tryz.func20, Tryz.ntmps20
      go_wp2_with fail
      refine (KC.out _ (by (repeat (first | exact Below.refl _ _ | refine bA ?_ _ | refine Below.setCell ?_ (by simp) _)))).mono ?_; rintro e w1 ⟨rfl, rfl⟩
      go_wp2
      go_ret
      exact ⟨congrArg (fun z => Ending.returned (.bool z)) HE.out.symm, (by (repeat (first | exact Below.refl _ _ | refine bA ?_ _ | refine Below.setCell ?_ (by simp) _)))⟩
set_option maxHeartbeats 8000000 in
set_option maxRecDepth 100000 in
theorem nodeOk12 (N M : Int) (S T : ByteArray) (ks : List Int) (kg kl : Nat) (kd : List Int) (q : ByteArray) (g cap len i : Nat) (w : World) (_ : g < w.heap.size) (_ : (i : Int) < (len : Int)) (hq : q.toList = kd.map ltr)
    (_ : q.size ≤ 1048576) (_ : S.size ≤ 1048576) (_ : T.size ≤ 1048576)
    (_ : w.cell? ⟨g, i * 6, none⟩ = some (.int .i64 12)) (_ : w.cell? ⟨g, i * 6 + 1, none⟩ = some (.int .i64 N)) (_ : w.cell? ⟨g, i * 6 + 2, none⟩ = some (.int .i64 M))
    (_ : w.cell? ⟨g, i * 6 + 3, none⟩ = some (.string S)) (_ : w.cell? ⟨g, i * 6 + 4, none⟩ = some (.string T)) (_ : w.cell? ⟨g, i * 6 + 5, none⟩ = some (.slice (some ⟨kg, 0, none⟩) kl kl))
    (KC : Hid (∀ W, Below w.heap.size w W → Calls Tryz.prog 51 #[.slice (some ⟨g, 0, none⟩) len cap, .int .i64 (i : Int)] W fun e w' => e = .returned (.string q) ∧ w' = W)) :
    Calls Tryz.prog 20 #[.slice (some ⟨g, 0, none⟩) len cap, .int .i64 (i : Int)] w fun e w' => e = .returned (.bool (dB (FitS ⟨12, N, M, S, T, ks⟩ kd))) ∧ Below w.heap.size w w' := by
  cases bS : (S.toList == ([] : List UInt8))
  · have HE : Hid (dB (FitS ⟨12, N, M, S, T, ks⟩ kd) = false) := dB_false (fun h => by simp [FitS, ← hq] at h <;> grind)
    clear hq
    go_enter Tryz.func20, Tryz.ntmps20
    go_wp2_with fail
    refine (KC.out _ (by (repeat (first | exact Below.refl _ _ | refine bA ?_ _ | refine Below.setCell ?_ (by simp) _)))).mono ?_; rintro e w1 ⟨rfl, rfl⟩
    go_wp2
    go_ret
    exact ⟨congrArg (fun z => Ending.returned (.bool z)) HE.out.symm, (by (repeat (first | exact Below.refl _ _ | refine bA ?_ _ | refine Below.setCell ?_ (by simp) _)))⟩
  cases bT : (T.toList == ([] : List UInt8))
  · have HE : Hid (dB (FitS ⟨12, N, M, S, T, ks⟩ kd) = false) := dB_false (fun h => by simp [FitS, ← hq] at h <;> grind)
    clear hq
    go_enter Tryz.func20, Tryz.ntmps20
    go_wp2_with fail
    refine (KC.out _ (by (repeat (first | exact Below.refl _ _ | refine bA ?_ _ | refine Below.setCell ?_ (by simp) _)))).mono ?_; rintro e w1 ⟨rfl, rfl⟩
    go_wp2
    go_ret
    exact ⟨congrArg (fun z => Ending.returned (.bool z)) HE.out.symm, (by (repeat (first | exact Below.refl _ _ | refine bA ?_ _ | refine Below.setCell ?_ (by simp) _)))⟩
  rcases (show M = 0 ∨ M = 1 ∨ (2 ≤ M ∧ M ≤ 4) ∨ (5 ≤ M ∧ M ≤ 6) ∨ M < 0 ∨ 6 < M from by omega) with rfl | rfl | ⟨hM1, hM2⟩ | ⟨hM1, hM2⟩ | hM1 | hM1
  · skip
    · have HE : Hid (dB (FitS ⟨12, N, 0, S, T, ks⟩ kd) = false) := dB_false (fun h => by simp [FitS, ← hq] at h <;> grind)
      clear hq
      go_enter Tryz.func20, Tryz.ntmps20
      go_wp2_with fail
      refine (KC.out _ (by (repeat (first | exact Below.refl _ _ | refine bA ?_ _ | refine Below.setCell ?_ (by simp) _)))).mono ?_; rintro e w1 ⟨rfl, rfl⟩
      go_wp2
      go_ret
      exact ⟨congrArg (fun z => Ending.returned (.bool z)) HE.out.symm, (by (repeat (first | exact Below.refl _ _ | refine bA ?_ _ | refine Below.setCell ?_ (by simp) _)))⟩
  · skip
    cases n1 : (N == 1)
    · cases n2 : (N == 2)
      · have HE : Hid (dB (FitS ⟨12, N, 1, S, T, ks⟩ kd) = false) := dB_false (fun h => by simp [FitS, ← hq] at h <;> grind)
        clear hq
        go_enter Tryz.func20, Tryz.ntmps20
        go_wp2_with fail
        refine (KC.out _ (by (repeat (first | exact Below.refl _ _ | refine bA ?_ _ | refine Below.setCell ?_ (by simp) _)))).mono ?_; rintro e w1 ⟨rfl, rfl⟩
        go_wp2
        go_ret
        exact ⟨congrArg (fun z => Ending.returned (.bool z)) HE.out.symm, (by (repeat (first | exact Below.refl _ _ | refine bA ?_ _ | refine Below.setCell ?_ (by simp) _)))⟩
      · have HE : Hid (dB (FitS ⟨12, N, 1, S, T, ks⟩ kd) = (q.toList == ([115, 113] : List UInt8))) := by show _ = _; rw [Bool.eq_iff_iff, dB_iff]; simp [FitS, ← hq] <;> grind
        clear hq
        go_enter Tryz.func20, Tryz.ntmps20
        go_wp2_with fail
        refine (KC.out _ (by (repeat (first | exact Below.refl _ _ | refine bA ?_ _ | refine Below.setCell ?_ (by simp) _)))).mono ?_; rintro e w1 ⟨rfl, rfl⟩
        go_wp2
        go_ret
        exact ⟨congrArg (fun z => Ending.returned (.bool z)) HE.out.symm, (by (repeat (first | exact Below.refl _ _ | refine bA ?_ _ | refine Below.setCell ?_ (by simp) _)))⟩
    · have HE : Hid (dB (FitS ⟨12, N, 1, S, T, ks⟩ kd) = (q.toList == ([115, 113] : List UInt8))) := by show _ = _; rw [Bool.eq_iff_iff, dB_iff]; simp [FitS, ← hq] <;> grind
      clear hq
      go_enter Tryz.func20, Tryz.ntmps20
      go_wp2_with fail
      refine (KC.out _ (by (repeat (first | exact Below.refl _ _ | refine bA ?_ _ | refine Below.setCell ?_ (by simp) _)))).mono ?_; rintro e w1 ⟨rfl, rfl⟩
      go_wp2
      go_ret
      exact ⟨congrArg (fun z => Ending.returned (.bool z)) HE.out.symm, (by (repeat (first | exact Below.refl _ _ | refine bA ?_ _ | refine Below.setCell ?_ (by simp) _)))⟩
  · have m0 : (M == 0) = false := beq_eq_false_iff_ne.2 (by omega)
    have m1 : (M == 1) = false := beq_eq_false_iff_ne.2 (by omega)
    have m2 : 1 ≤ M := by omega
    have m3 : M ≤ 6 := by omega
    cases n1 : (N == 1)
    · cases n2 : (N == 2)
      · have HE : Hid (dB (FitS ⟨12, N, M, S, T, ks⟩ kd) = false) := dB_false (fun h => by simp [FitS, ← hq] at h <;> grind)
        clear hq
        go_enter Tryz.func20, Tryz.ntmps20
        go_wp2_with fail
        refine (KC.out _ (by (repeat (first | exact Below.refl _ _ | refine bA ?_ _ | refine Below.setCell ?_ (by simp) _)))).mono ?_; rintro e w1 ⟨rfl, rfl⟩
        go_wp2
        go_ret
        exact ⟨congrArg (fun z => Ending.returned (.bool z)) HE.out.symm, (by (repeat (first | exact Below.refl _ _ | refine bA ?_ _ | refine Below.setCell ?_ (by simp) _)))⟩
      · have HE : Hid (dB (FitS ⟨12, N, M, S, T, ks⟩ kd) = (q.toList == ([115, 113] : List UInt8))) := by show _ = _; rw [Bool.eq_iff_iff, dB_iff]; simp [FitS, ← hq] <;> grind
        clear hq
        go_enter Tryz.func20, Tryz.ntmps20
        go_wp2_with fail
        refine (KC.out _ (by (repeat (first | exact Below.refl _ _ | refine bA ?_ _ | refine Below.setCell ?_ (by simp) _)))).mono ?_; rintro e w1 ⟨rfl, rfl⟩
        go_wp2
        go_ret
        exact ⟨congrArg (fun z => Ending.returned (.bool z)) HE.out.symm, (by (repeat (first | exact Below.refl _ _ | refine bA ?_ _ | refine Below.setCell ?_ (by simp) _)))⟩
    · have HE : Hid (dB (FitS ⟨12, N, M, S, T, ks⟩ kd) = (q.toList == ([115, 113] : List UInt8))) := by show _ = _; rw [Bool.eq_iff_iff, dB_iff]; simp [FitS, ← hq] <;> grind
      clear hq
      go_enter Tryz.func20, Tryz.ntmps20
      go_wp2_with fail
      refine (KC.out _ (by (repeat (first | exact Below.refl _ _ | refine bA ?_ _ | refine Below.setCell ?_ (by simp) _)))).mono ?_; rintro e w1 ⟨rfl, rfl⟩
      go_wp2
      go_ret
      exact ⟨congrArg (fun z => Ending.returned (.bool z)) HE.out.symm, (by (repeat (first | exact Below.refl _ _ | refine bA ?_ _ | refine Below.setCell ?_ (by simp) _)))⟩
  · have m0 : (M == 0) = false := beq_eq_false_iff_ne.2 (by omega)
    have m1 : (M == 1) = false := beq_eq_false_iff_ne.2 (by omega)
    have m2 : 1 ≤ M := by omega
    have m3 : M ≤ 6 := by omega
    cases n1 : (N == 1)
    · cases n2 : (N == 2)
      · have HE : Hid (dB (FitS ⟨12, N, M, S, T, ks⟩ kd) = false) := dB_false (fun h => by simp [FitS, ← hq] at h <;> grind)
        clear hq
        go_enter Tryz.func20, Tryz.ntmps20
        go_wp2_with fail
        refine (KC.out _ (by (repeat (first | exact Below.refl _ _ | refine bA ?_ _ | refine Below.setCell ?_ (by simp) _)))).mono ?_; rintro e w1 ⟨rfl, rfl⟩
        go_wp2
        go_ret
        exact ⟨congrArg (fun z => Ending.returned (.bool z)) HE.out.symm, (by (repeat (first | exact Below.refl _ _ | refine bA ?_ _ | refine Below.setCell ?_ (by simp) _)))⟩
      · have HE : Hid (dB (FitS ⟨12, N, M, S, T, ks⟩ kd) = (q.toList == ([115, 113] : List UInt8))) := by show _ = _; rw [Bool.eq_iff_iff, dB_iff]; simp [FitS, ← hq] <;> grind
        clear hq
        go_enter Tryz.func20, Tryz.ntmps20
        go_wp2_with fail
        refine (KC.out _ (by (repeat (first | exact Below.refl _ _ | refine bA ?_ _ | refine Below.setCell ?_ (by simp) _)))).mono ?_; rintro e w1 ⟨rfl, rfl⟩
        go_wp2
        go_ret
        exact ⟨congrArg (fun z => Ending.returned (.bool z)) HE.out.symm, (by (repeat (first | exact Below.refl _ _ | refine bA ?_ _ | refine Below.setCell ?_ (by simp) _)))⟩
    · have HE : Hid (dB (FitS ⟨12, N, M, S, T, ks⟩ kd) = (q.toList == ([115, 113] : List UInt8))) := by show _ = _; rw [Bool.eq_iff_iff, dB_iff]; simp [FitS, ← hq] <;> grind
      clear hq
      go_enter Tryz.func20, Tryz.ntmps20
      go_wp2_with fail
      refine (KC.out _ (by (repeat (first | exact Below.refl _ _ | refine bA ?_ _ | refine Below.setCell ?_ (by simp) _)))).mono ?_; rintro e w1 ⟨rfl, rfl⟩
      go_wp2
      go_ret
      exact ⟨congrArg (fun z => Ending.returned (.bool z)) HE.out.symm, (by (repeat (first | exact Below.refl _ _ | refine bA ?_ _ | refine Below.setCell ?_ (by simp) _)))⟩
  · have m0 : (M == 0) = false := beq_eq_false_iff_ne.2 (by omega)
    have m1 : (M == 1) = false := beq_eq_false_iff_ne.2 (by omega)
    have m2 : ¬ 1 ≤ M := by omega
    have m3 : M ≤ 6 := by omega
    · have HE : Hid (dB (FitS ⟨12, N, M, S, T, ks⟩ kd) = false) := dB_false (fun h => by simp [FitS, ← hq] at h <;> grind)
      clear hq
      go_enter Tryz.func20, Tryz.ntmps20
      go_wp2_with fail
      refine (KC.out _ (by (repeat (first | exact Below.refl _ _ | refine bA ?_ _ | refine Below.setCell ?_ (by simp) _)))).mono ?_; rintro e w1 ⟨rfl, rfl⟩
      go_wp2
      go_ret
      exact ⟨congrArg (fun z => Ending.returned (.bool z)) HE.out.symm, (by (repeat (first | exact Below.refl _ _ | refine bA ?_ _ | refine Below.setCell ?_ (by simp) _)))⟩
  · have m0 : (M == 0) = false := beq_eq_false_iff_ne.2 (by omega)
    have m1 : (M == 1) = false := beq_eq_false_iff_ne.2 (by omega)
    have m2 : 1 ≤ M := by omega
    have m3 : ¬ M ≤ 6 := by omega
    · have HE : Hid (dB (FitS ⟨12, N, M, S, T, ks⟩ kd) = false) := dB_false (fun h => by simp [FitS, ← hq] at h <;> grind)
      clear hq
      go_enter Tryz.func20, Tryz.ntmps20
      go_wp2_with fail
      refine (KC.out _ (by (repeat (first | exact Below.refl _ _ | refine bA ?_ _ | refine Below.setCell ?_ (by simp) _)))).mono ?_; rintro e w1 ⟨rfl, rfl⟩
      go_wp2
      go_ret
      exact ⟨congrArg (fun z => Ending.returned (.bool z)) HE.out.symm, (by (repeat (first | exact Below.refl _ _ | refine bA ?_ _ | refine Below.setCell ?_ (by simp) _)))⟩
set_option maxHeartbeats 8000000 in
set_option maxRecDepth 100000 in
theorem nodeOk14 (N M : Int) (S T : ByteArray) (ks : List Int) (kg kl : Nat) (kd : List Int) (q : ByteArray) (g cap len i : Nat) (w : World) (_ : g < w.heap.size) (_ : (i : Int) < (len : Int)) (hq : q.toList = kd.map ltr)
    (hqs : q.size ≤ 1048576) (_ : S.size ≤ 1048576) (_ : T.size ≤ 1048576)
    (_ : w.cell? ⟨g, i * 6, none⟩ = some (.int .i64 14)) (_ : w.cell? ⟨g, i * 6 + 1, none⟩ = some (.int .i64 N)) (_ : w.cell? ⟨g, i * 6 + 2, none⟩ = some (.int .i64 M))
    (_ : w.cell? ⟨g, i * 6 + 3, none⟩ = some (.string S)) (_ : w.cell? ⟨g, i * 6 + 4, none⟩ = some (.string T)) (_ : w.cell? ⟨g, i * 6 + 5, none⟩ = some (.slice (some ⟨kg, 0, none⟩) kl kl))
    (KC : Hid (∀ W, Below w.heap.size w W → Calls Tryz.prog 51 #[.slice (some ⟨g, 0, none⟩) len cap, .int .i64 (i : Int)] W fun e w' => e = .returned (.string q) ∧ w' = W)) :
    Calls Tryz.prog 20 #[.slice (some ⟨g, 0, none⟩) len cap, .int .i64 (i : Int)] w fun e w' => e = .returned (.bool (dB (FitS ⟨14, N, M, S, T, ks⟩ kd))) ∧ Below w.heap.size w w' := by
  cases bS : (S.toList == ([] : List UInt8))
  · have HE : Hid (dB (FitS ⟨14, N, M, S, T, ks⟩ kd) = false) := dB_false (fun h => by simp [FitS, ← hq] at h <;> grind)
    clear hq
    go_enter Tryz.func20, Tryz.ntmps20
    go_wp2_with fail
    refine (KC.out _ (by (repeat (first | exact Below.refl _ _ | refine bA ?_ _ | refine Below.setCell ?_ (by simp) _)))).mono ?_; rintro e w1 ⟨rfl, rfl⟩
    go_wp2
    go_ret
    exact ⟨congrArg (fun z => Ending.returned (.bool z)) HE.out.symm, (by (repeat (first | exact Below.refl _ _ | refine bA ?_ _ | refine Below.setCell ?_ (by simp) _)))⟩
  cases bT : (T.toList == ([] : List UInt8))
  · have HE : Hid (dB (FitS ⟨14, N, M, S, T, ks⟩ kd) = false) := dB_false (fun h => by simp [FitS, ← hq] at h <;> grind)
    clear hq
    go_enter Tryz.func20, Tryz.ntmps20
    go_wp2_with fail
    refine (KC.out _ (by (repeat (first | exact Below.refl _ _ | refine bA ?_ _ | refine Below.setCell ?_ (by simp) _)))).mono ?_; rintro e w1 ⟨rfl, rfl⟩
    go_wp2
    go_ret
    exact ⟨congrArg (fun z => Ending.returned (.bool z)) HE.out.symm, (by (repeat (first | exact Below.refl _ _ | refine bA ?_ _ | refine Below.setCell ?_ (by simp) _)))⟩
  cases bN : (N == 0)
  · have HE : Hid (dB (FitS ⟨14, N, M, S, T, ks⟩ kd) = false) := dB_false (fun h => by simp [FitS, ← hq] at h <;> grind)
    clear hq
    go_enter Tryz.func20, Tryz.ntmps20
    go_wp2_with fail
    refine (KC.out _ (by (repeat (first | exact Below.refl _ _ | refine bA ?_ _ | refine Below.setCell ?_ (by simp) _)))).mono ?_; rintro e w1 ⟨rfl, rfl⟩
    go_wp2
    go_ret
    exact ⟨congrArg (fun z => Ending.returned (.bool z)) HE.out.symm, (by (repeat (first | exact Below.refl _ _ | refine bA ?_ _ | refine Below.setCell ?_ (by simp) _)))⟩
  obtain rfl : N = 0 := by simpa using bN
  cases bM : (M == 0)
  · have HE : Hid (dB (FitS ⟨14, 0, M, S, T, ks⟩ kd) = false) := dB_false (fun h => by simp [FitS, ← hq] at h <;> grind)
    clear hq
    go_enter Tryz.func20, Tryz.ntmps20
    go_wp2_with fail
    refine (KC.out _ (by (repeat (first | exact Below.refl _ _ | refine bA ?_ _ | refine Below.setCell ?_ (by simp) _)))).mono ?_; rintro e w1 ⟨rfl, rfl⟩
    go_wp2
    go_ret
    exact ⟨congrArg (fun z => Ending.returned (.bool z)) HE.out.symm, (by (repeat (first | exact Below.refl _ _ | refine bA ?_ _ | refine Below.setCell ?_ (by simp) _)))⟩
  obtain rfl : M = 0 := by simpa using bM
  have OC := fun w => only_calls q 99 2 w hqs
  have ho := only_iff q 99 2
  have hOd : dB (onlyB q 99 2) = true ↔ onlyB q 99 2 := dB_iff
  have ho' : onlyB q 99 2 ↔ only q.toList 99 2 := ho
  clear ho
  generalize dB (onlyB q 99 2) = d at *
  have HOC := hide OC
  clear OC
  · have HE : Hid (dB (FitS ⟨14, 0, 0, S, T, ks⟩ kd) = d) := by show _ = _; rw [Bool.eq_iff_iff, dB_iff]; simp [FitS, ← hq] <;> grind
    clear hq hOd ho'
    go_enter Tryz.func20, Tryz.ntmps20
    go_wp2_with fail
    refine (KC.out _ (by (repeat (first | exact Below.refl _ _ | refine bA ?_ _ | refine Below.setCell ?_ (by simp) _)))).mono ?_; rintro e w1 ⟨rfl, rfl⟩
    go_wp2_with fail
    refine (unhide HOC _).mono ?_; rintro e w1 ⟨rfl, rfl⟩
    go_wp2
    go_ret
    exact ⟨congrArg (fun z => Ending.returned (.bool z)) HE.out.symm, (by (repeat (first | exact Below.refl _ _ | refine bA ?_ _ | refine Below.setCell ?_ (by simp) _)))⟩
set_option maxHeartbeats 8000000 in
set_option maxRecDepth 100000 in
theorem nodeOk15 (N M : Int) (S T : ByteArray) (ks : List Int) (kg kl : Nat) (kd : List Int) (q : ByteArray) (g cap len i : Nat) (w : World) (_ : g < w.heap.size) (_ : (i : Int) < (len : Int)) (hq : q.toList = kd.map ltr)
    (hqs : q.size ≤ 1048576) (_ : S.size ≤ 1048576) (_ : T.size ≤ 1048576)
    (_ : w.cell? ⟨g, i * 6, none⟩ = some (.int .i64 15)) (_ : w.cell? ⟨g, i * 6 + 1, none⟩ = some (.int .i64 N)) (_ : w.cell? ⟨g, i * 6 + 2, none⟩ = some (.int .i64 M))
    (_ : w.cell? ⟨g, i * 6 + 3, none⟩ = some (.string S)) (_ : w.cell? ⟨g, i * 6 + 4, none⟩ = some (.string T)) (_ : w.cell? ⟨g, i * 6 + 5, none⟩ = some (.slice (some ⟨kg, 0, none⟩) kl kl))
    (KC : Hid (∀ W, Below w.heap.size w W → Calls Tryz.prog 51 #[.slice (some ⟨g, 0, none⟩) len cap, .int .i64 (i : Int)] W fun e w' => e = .returned (.string q) ∧ w' = W)) :
    Calls Tryz.prog 20 #[.slice (some ⟨g, 0, none⟩) len cap, .int .i64 (i : Int)] w fun e w' => e = .returned (.bool (dB (FitS ⟨15, N, M, S, T, ks⟩ kd))) ∧ Below w.heap.size w w' := by
  cases bS : (S.toList == ([] : List UInt8))
  · have HE : Hid (dB (FitS ⟨15, N, M, S, T, ks⟩ kd) = false) := dB_false (fun h => by simp [FitS, ← hq] at h <;> grind)
    clear hq
    go_enter Tryz.func20, Tryz.ntmps20
    go_wp2_with fail
    refine (KC.out _ (by (repeat (first | exact Below.refl _ _ | refine bA ?_ _ | refine Below.setCell ?_ (by simp) _)))).mono ?_; rintro e w1 ⟨rfl, rfl⟩
    go_wp2
    go_ret
    exact ⟨congrArg (fun z => Ending.returned (.bool z)) HE.out.symm, (by (repeat (first | exact Below.refl _ _ | refine bA ?_ _ | refine Below.setCell ?_ (by simp) _)))⟩
  cases bT : (T.toList == ([] : List UInt8))
  · have HE : Hid (dB (FitS ⟨15, N, M, S, T, ks⟩ kd) = false) := dB_false (fun h => by simp [FitS, ← hq] at h <;> grind)
    clear hq
    go_enter Tryz.func20, Tryz.ntmps20
    go_wp2_with fail
    refine (KC.out _ (by (repeat (first | exact Below.refl _ _ | refine bA ?_ _ | refine Below.setCell ?_ (by simp) _)))).mono ?_; rintro e w1 ⟨rfl, rfl⟩
    go_wp2
    go_ret
    exact ⟨congrArg (fun z => Ending.returned (.bool z)) HE.out.symm, (by (repeat (first | exact Below.refl _ _ | refine bA ?_ _ | refine Below.setCell ?_ (by simp) _)))⟩
  cases bN : (N == 0)
  · have HE : Hid (dB (FitS ⟨15, N, M, S, T, ks⟩ kd) = false) := dB_false (fun h => by simp [FitS, ← hq] at h <;> grind)
    clear hq
    go_enter Tryz.func20, Tryz.ntmps20
    go_wp2_with fail
    refine (KC.out _ (by (repeat (first | exact Below.refl _ _ | refine bA ?_ _ | refine Below.setCell ?_ (by simp) _)))).mono ?_; rintro e w1 ⟨rfl, rfl⟩
    go_wp2
    go_ret
    exact ⟨congrArg (fun z => Ending.returned (.bool z)) HE.out.symm, (by (repeat (first | exact Below.refl _ _ | refine bA ?_ _ | refine Below.setCell ?_ (by simp) _)))⟩
  obtain rfl : N = 0 := by simpa using bN
  cases bM : (M == 0)
  · have HE : Hid (dB (FitS ⟨15, 0, M, S, T, ks⟩ kd) = false) := dB_false (fun h => by simp [FitS, ← hq] at h <;> grind)
    clear hq
    go_enter Tryz.func20, Tryz.ntmps20
    go_wp2_with fail
    refine (KC.out _ (by (repeat (first | exact Below.refl _ _ | refine bA ?_ _ | refine Below.setCell ?_ (by simp) _)))).mono ?_; rintro e w1 ⟨rfl, rfl⟩
    go_wp2
    go_ret
    exact ⟨congrArg (fun z => Ending.returned (.bool z)) HE.out.symm, (by (repeat (first | exact Below.refl _ _ | refine bA ?_ _ | refine Below.setCell ?_ (by simp) _)))⟩
  obtain rfl : M = 0 := by simpa using bM
  have OC := fun w => only_calls q 99 2 w hqs
  have ho := only_iff q 99 2
  have hOd : dB (onlyB q 99 2) = true ↔ onlyB q 99 2 := dB_iff
  have ho' : onlyB q 99 2 ↔ only q.toList 99 2 := ho
  clear ho
  generalize dB (onlyB q 99 2) = d at *
  have HOC := hide OC
  clear OC
  · have HE : Hid (dB (FitS ⟨15, 0, 0, S, T, ks⟩ kd) = d) := by show _ = _; rw [Bool.eq_iff_iff, dB_iff]; simp [FitS, ← hq] <;> grind
    clear hq hOd ho'
    go_enter Tryz.func20, Tryz.ntmps20
    go_wp2_with fail
    refine (KC.out _ (by (repeat (first | exact Below.refl _ _ | refine bA ?_ _ | refine Below.setCell ?_ (by simp) _)))).mono ?_; rintro e w1 ⟨rfl, rfl⟩
    go_wp2_with fail
    refine (unhide HOC _).mono ?_; rintro e w1 ⟨rfl, rfl⟩
    go_wp2
    go_ret
    exact ⟨congrArg (fun z => Ending.returned (.bool z)) HE.out.symm, (by (repeat (first | exact Below.refl _ _ | refine bA ?_ _ | refine Below.setCell ?_ (by simp) _)))⟩
end Go.Proofs.YtmcbmmpjhijagaaGreatDoor
