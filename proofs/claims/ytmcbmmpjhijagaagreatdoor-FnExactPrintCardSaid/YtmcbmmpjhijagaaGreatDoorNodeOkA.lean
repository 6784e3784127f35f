import Derived.Test.YtmcbmmpjhijagaaGreatDoorQ33
import Derived.Test.YtmcbmmpjhijagaaGreatDoorQ40
namespace Go.Proofs.YtmcbmmpjhijagaaGreatDoor
open Go Go.RowKit
set_option maxHeartbeats 8000000 in
set_option maxRecDepth 100000 in
theorem nodeOk1 (N M : Int) (S T : ByteArray) (ks : List Int) (kg kl : Nat) (kd : List Int) (q : ByteArray) (g cap len i : Nat) (w : World) (_ : g < w.heap.size) (_ : (i : Int) < (len : Int)) (hq : q.toList = kd.map ltr)
    (_ : q.size ≤ 1048576) (_ : S.size ≤ 1048576) (_ : T.size ≤ 1048576)
    (_ : w.cell? ⟨g, i * 6, none⟩ = some (.int .i64 1)) (_ : w.cell? ⟨g, i * 6 + 1, none⟩ = some (.int .i64 N)) (_ : w.cell? ⟨g, i * 6 + 2, none⟩ = some (.int .i64 M))
    (_ : w.cell? ⟨g, i * 6 + 3, none⟩ = some (.string S)) (_ : w.cell? ⟨g, i * 6 + 4, none⟩ = some (.string T)) (_ : w.cell? ⟨g, i * 6 + 5, none⟩ = some (.slice (some ⟨kg, 0, none⟩) kl kl))
    (KC : Hid (∀ W, Below w.heap.size w W → Calls Tryz.prog 51 #[.slice (some ⟨g, 0, none⟩) len cap, .int .i64 (i : Int)] W fun e w' => e = .returned (.string q) ∧ w' = W)) :
    Calls Tryz.prog 20 #[.slice (some ⟨g, 0, none⟩) len cap, .int .i64 (i : Int)] w fun e w' => e = .returned (.bool (dB (FitS ⟨1, N, M, S, T, ks⟩ kd))) ∧ Below w.heap.size w w' := by
  cases bS : (S.toList == ([] : List UInt8))
  · have HE : Hid (dB (FitS ⟨1, N, M, S, T, ks⟩ kd) = false) := dB_false (fun h => by simp [FitS, ← hq] at h <;> grind)
    clear hq
    go_enter Tryz.func20, Tryz.ntmps20
    go_wp2_with fail
    refine (KC.out _ (by (repeat (first | exact Below.refl _ _ | refine bA ?_ _ | refine Below.setCell ?_ (by simp) _)))).mono ?_; rintro e w1 ⟨rfl, rfl⟩
    go_wp2
    go_ret
    exact ⟨congrArg (fun z => Ending.returned (.bool z)) HE.out.symm, (by (repeat (first | exact Below.refl _ _ | refine bA ?_ _ | refine Below.setCell ?_ (by simp) _)))⟩
  cases bT : (T.toList == ([] : List UInt8))
  · have HE : Hid (dB (FitS ⟨1, N, M, S, T, ks⟩ kd) = false) := dB_false (fun h => by simp [FitS, ← hq] at h <;> grind)
    clear hq
    go_enter Tryz.func20, Tryz.ntmps20
    go_wp2_with fail
    refine (KC.out _ (by (repeat (first | exact Below.refl _ _ | refine bA ?_ _ | refine Below.setCell ?_ (by simp) _)))).mono ?_; rintro e w1 ⟨rfl, rfl⟩
    go_wp2
    go_ret
    exact ⟨congrArg (fun z => Ending.returned (.bool z)) HE.out.symm, (by (repeat (first | exact Below.refl _ _ | refine bA ?_ _ | refine Below.setCell ?_ (by simp) _)))⟩
  cases bM : (M == 0)
  · have HE : Hid (dB (FitS ⟨1, N, M, S, T, ks⟩ kd) = false) := dB_false (fun h => by simp [FitS, ← hq] at h <;> grind)
    clear hq
    go_enter Tryz.func20, Tryz.ntmps20
    go_wp2_with fail
    refine (KC.out _ (by (repeat (first | exact Below.refl _ _ | refine bA ?_ _ | refine Below.setCell ?_ (by simp) _)))).mono ?_; rintro e w1 ⟨rfl, rfl⟩
    go_wp2
    go_ret
    exact ⟨congrArg (fun z => Ending.returned (.bool z)) HE.out.symm, (by (repeat (first | exact Below.refl _ _ | refine bA ?_ _ | refine Below.setCell ?_ (by simp) _)))⟩
  obtain rfl : M = 0 := by simpa using bM
  cases bq : (q.toList == ([] : List UInt8))
  · have HE : Hid (dB (FitS ⟨1, N, 0, S, T, ks⟩ kd) = false) := dB_false (fun h => by simp [FitS, ← hq] at h <;> grind)
    clear hq
    go_enter Tryz.func20, Tryz.ntmps20
    go_wp2_with fail
    refine (KC.out _ (by (repeat (first | exact Below.refl _ _ | refine bA ?_ _ | refine Below.setCell ?_ (by simp) _)))).mono ?_; rintro e w1 ⟨rfl, rfl⟩
    go_wp2
    go_ret
    exact ⟨congrArg (fun z => Ending.returned (.bool z)) HE.out.symm, (by (repeat (first | exact Below.refl _ _ | refine bA ?_ _ | refine Below.setCell ?_ (by simp) _)))⟩
  · have HE : Hid (dB (FitS ⟨1, N, 0, S, T, ks⟩ kd) = shortB N) := by show _ = _; rw [Bool.eq_iff_iff, dB_iff]; simp [FitS, ← hq] <;> grind
    clear hq
    go_enter Tryz.func20, Tryz.ntmps20
    go_wp2_with fail
    refine (KC.out _ (by (repeat (first | exact Below.refl _ _ | refine bA ?_ _ | refine Below.setCell ?_ (by simp) _)))).mono ?_; rintro e w1 ⟨rfl, rfl⟩
    go_wp2_with fail
    refine (short_calls N _).mono ?_; rintro e w1 ⟨rfl, rfl⟩
    go_wp2
    go_ret
    exact ⟨congrArg (fun z => Ending.returned (.bool z)) HE.out.symm, (by (repeat (first | exact Below.refl _ _ | refine bA ?_ _ | refine Below.setCell ?_ (by simp) _)))⟩
set_option maxHeartbeats 8000000 in
set_option maxRecDepth 100000 in
theorem nodeOk2 (N M : Int) (S T : ByteArray) (ks : List Int) (kg kl : Nat) (kd : List Int) (q : ByteArray) (g cap len i : Nat) (w : World) (_ : g < w.heap.size) (_ : (i : Int) < (len : Int)) (hq : q.toList = kd.map ltr)
    (_ : q.size ≤ 1048576) (_ : S.size ≤ 1048576) (_ : T.size ≤ 1048576)
    (_ : w.cell? ⟨g, i * 6, none⟩ = some (.int .i64 2)) (_ : w.cell? ⟨g, i * 6 + 1, none⟩ = some (.int .i64 N)) (_ : w.cell? ⟨g, i * 6 + 2, none⟩ = some (.int .i64 M))
    (_ : w.cell? ⟨g, i * 6 + 3, none⟩ = some (.string S)) (_ : w.cell? ⟨g, i * 6 + 4, none⟩ = some (.string T)) (_ : w.cell? ⟨g, i * 6 + 5, none⟩ = some (.slice (some ⟨kg, 0, none⟩) kl kl))
    (KC : Hid (∀ W, Below w.heap.size w W → Calls Tryz.prog 51 #[.slice (some ⟨g, 0, none⟩) len cap, .int .i64 (i : Int)] W fun e w' => e = .returned (.string q) ∧ w' = W)) :
    Calls Tryz.prog 20 #[.slice (some ⟨g, 0, none⟩) len cap, .int .i64 (i : Int)] w fun e w' => e = .returned (.bool (dB (FitS ⟨2, N, M, S, T, ks⟩ kd))) ∧ Below w.heap.size w w' := by
  cases bS : (S.toList == ([] : List UInt8))
  · have HE : Hid (dB (FitS ⟨2, N, M, S, T, ks⟩ kd) = false) := dB_false (fun h => by simp [FitS, ← hq] at h <;> grind)
    clear hq
    go_enter Tryz.func20, Tryz.ntmps20
    go_wp2_with fail
    refine (KC.out _ (by (repeat (first | exact Below.refl _ _ | refine bA ?_ _ | refine Below.setCell ?_ (by simp) _)))).mono ?_; rintro e w1 ⟨rfl, rfl⟩
    go_wp2
    go_ret
    exact ⟨congrArg (fun z => Ending.returned (.bool z)) HE.out.symm, (by (repeat (first | exact Below.refl _ _ | refine bA ?_ _ | refine Below.setCell ?_ (by simp) _)))⟩
  cases bT : (T.toList == ([] : List UInt8))
  · have HE : Hid (dB (FitS ⟨2, N, M, S, T, ks⟩ kd) = false) := dB_false (fun h => by simp [FitS, ← hq] at h <;> grind)
    clear hq
    go_enter Tryz.func20, Tryz.ntmps20
    go_wp2_with fail
    refine (KC.out _ (by (repeat (first | exact Below.refl _ _ | refine bA ?_ _ | refine Below.setCell ?_ (by simp) _)))).mono ?_; rintro e w1 ⟨rfl, rfl⟩
    go_wp2
    go_ret
    exact ⟨congrArg (fun z => Ending.returned (.bool z)) HE.out.symm, (by (repeat (first | exact Below.refl _ _ | refine bA ?_ _ | refine Below.setCell ?_ (by simp) _)))⟩
  cases bN : (N == 0)
  · have HE : Hid (dB (FitS ⟨2, N, M, S, T, ks⟩ kd) = false) := dB_false (fun h => by simp [FitS, ← hq] at h <;> grind)
    clear hq
    go_enter Tryz.func20, Tryz.ntmps20
    go_wp2_with fail
    refine (KC.out _ (by (repeat (first | exact Below.refl _ _ | refine bA ?_ _ | refine Below.setCell ?_ (by simp) _)))).mono ?_; rintro e w1 ⟨rfl, rfl⟩
    go_wp2
    go_ret
    exact ⟨congrArg (fun z => Ending.returned (.bool z)) HE.out.symm, (by (repeat (first | exact Below.refl _ _ | refine bA ?_ _ | refine Below.setCell ?_ (by simp) _)))⟩
  obtain rfl : N = 0 := by simpa using bN
  cases bM : (M == 0)
  · have HE : Hid (dB (FitS ⟨2, 0, M, S, T, ks⟩ kd) = false) := dB_false (fun h => by simp [FitS, ← hq] at h <;> grind)
    clear hq
    go_enter Tryz.func20, Tryz.ntmps20
    go_wp2_with fail
    refine (KC.out _ (by (repeat (first | exact Below.refl _ _ | refine bA ?_ _ | refine Below.setCell ?_ (by simp) _)))).mono ?_; rintro e w1 ⟨rfl, rfl⟩
    go_wp2
    go_ret
    exact ⟨congrArg (fun z => Ending.returned (.bool z)) HE.out.symm, (by (repeat (first | exact Below.refl _ _ | refine bA ?_ _ | refine Below.setCell ?_ (by simp) _)))⟩
  obtain rfl : M = 0 := by simpa using bM
  · have HE : Hid (dB (FitS ⟨2, 0, 0, S, T, ks⟩ kd) = (q.toList.isEmpty)) := by show _ = _; rw [Bool.eq_iff_iff, dB_iff]; simp [FitS, ← hq] <;> grind
    clear hq
    go_enter Tryz.func20, Tryz.ntmps20
    go_wp2_with fail
    refine (KC.out _ (by (repeat (first | exact Below.refl _ _ | refine bA ?_ _ | refine Below.setCell ?_ (by simp) _)))).mono ?_; rintro e w1 ⟨rfl, rfl⟩
    go_wp2
    go_ret
    exact ⟨congrArg (fun z => Ending.returned (.bool z)) HE.out.symm, (by (repeat (first | exact Below.refl _ _ | refine bA ?_ _ | refine Below.setCell ?_ (by simp) _)))⟩
set_option maxHeartbeats 8000000 in
set_option maxRecDepth 100000 in
theorem nodeOk3 (N M : Int) (S T : ByteArray) (ks : List Int) (kg kl : Nat) (kd : List Int) (q : ByteArray) (g cap len i : Nat) (w : World) (_ : g < w.heap.size) (_ : (i : Int) < (len : Int)) (hq : q.toList = kd.map ltr)
    (_ : q.size ≤ 1048576) (hSs : S.size ≤ 1048576) (_ : T.size ≤ 1048576)
    (_ : w.cell? ⟨g, i * 6, none⟩ = some (.int .i64 3)) (_ : w.cell? ⟨g, i * 6 + 1, none⟩ = some (.int .i64 N)) (_ : w.cell? ⟨g, i * 6 + 2, none⟩ = some (.int .i64 M))
    (_ : w.cell? ⟨g, i * 6 + 3, none⟩ = some (.string S)) (_ : w.cell? ⟨g, i * 6 + 4, none⟩ = some (.string T)) (_ : w.cell? ⟨g, i * 6 + 5, none⟩ = some (.slice (some ⟨kg, 0, none⟩) kl kl))
    (KC : Hid (∀ W, Below w.heap.size w W → Calls Tryz.prog 51 #[.slice (some ⟨g, 0, none⟩) len cap, .int .i64 (i : Int)] W fun e w' => e = .returned (.string q) ∧ w' = W)) :
    Calls Tryz.prog 20 #[.slice (some ⟨g, 0, none⟩) len cap, .int .i64 (i : Int)] w fun e w' => e = .returned (.bool (dB (FitS ⟨3, N, M, S, T, ks⟩ kd))) ∧ Below w.heap.size w w' := by
  cases bS : (S.toList == ([] : List UInt8))
  rotate_left
  · have HE : Hid (dB (FitS ⟨3, N, M, S, T, ks⟩ kd) = false) := dB_false (fun h => by simp [FitS, ← hq] at h <;> grind)
    clear hq
    go_enter Tryz.func20, Tryz.ntmps20
    go_wp2_with fail
    refine (KC.out _ (by (repeat (first | exact Below.refl _ _ | refine bA ?_ _ | refine Below.setCell ?_ (by simp) _)))).mono ?_; rintro e w1 ⟨rfl, rfl⟩
    go_wp2
    go_ret
    exact ⟨congrArg (fun z => Ending.returned (.bool z)) HE.out.symm, (by (repeat (first | exact Below.refl _ _ | refine bA ?_ _ | refine Below.setCell ?_ (by simp) _)))⟩
  cases bT : (T.toList == ([] : List UInt8))
  · have HE : Hid (dB (FitS ⟨3, N, M, S, T, ks⟩ kd) = false) := dB_false (fun h => by simp [FitS, ← hq] at h <;> grind)
    clear hq
    go_enter Tryz.func20, Tryz.ntmps20
    go_wp2_with fail
    refine (KC.out _ (by (repeat (first | exact Below.refl _ _ | refine bA ?_ _ | refine Below.setCell ?_ (by simp) _)))).mono ?_; rintro e w1 ⟨rfl, rfl⟩
    go_wp2
    go_ret
    exact ⟨congrArg (fun z => Ending.returned (.bool z)) HE.out.symm, (by (repeat (first | exact Below.refl _ _ | refine bA ?_ _ | refine Below.setCell ?_ (by simp) _)))⟩
  cases bM : (M == 0)
  · have HE : Hid (dB (FitS ⟨3, N, M, S, T, ks⟩ kd) = false) := dB_false (fun h => by simp [FitS, ← hq] at h <;> grind)
    clear hq
    go_enter Tryz.func20, Tryz.ntmps20
    go_wp2_with fail
    refine (KC.out _ (by (repeat (first | exact Below.refl _ _ | refine bA ?_ _ | refine Below.setCell ?_ (by simp) _)))).mono ?_; rintro e w1 ⟨rfl, rfl⟩
    go_wp2
    go_ret
    exact ⟨congrArg (fun z => Ending.returned (.bool z)) HE.out.symm, (by (repeat (first | exact Below.refl _ _ | refine bA ?_ _ | refine Below.setCell ?_ (by simp) _)))⟩
  obtain rfl : M = 0 := by simpa using bM
  cases bq : (q.toList == ([] : List UInt8))
  · have HE : Hid (dB (FitS ⟨3, N, 0, S, T, ks⟩ kd) = false) := dB_false (fun h => by simp [FitS, ← hq] at h <;> grind)
    clear hq
    go_enter Tryz.func20, Tryz.ntmps20
    go_wp2_with fail
    refine (KC.out _ (by (repeat (first | exact Below.refl _ _ | refine bA ?_ _ | refine Below.setCell ?_ (by simp) _)))).mono ?_; rintro e w1 ⟨rfl, rfl⟩
    go_wp2
    go_ret
    exact ⟨congrArg (fun z => Ending.returned (.bool z)) HE.out.symm, (by (repeat (first | exact Below.refl _ _ | refine bA ?_ _ | refine Below.setCell ?_ (by simp) _)))⟩
  have NC := fun w => sIsName_calls S w hSs
  have hNd : dB (NameB S) = true ↔ NameB S := dB_iff
  generalize dB (NameB S) = d at *
  have HNC := hide NC
  clear NC
  cases d
  · have HE : Hid (dB (FitS ⟨3, N, 0, S, T, ks⟩ kd) = false) := dB_false (fun h => by simp [FitS, ← hq] at h <;> grind)
    clear hq hNd
    go_enter Tryz.func20, Tryz.ntmps20
    go_wp2_with fail
    refine (KC.out _ (by (repeat (first | exact Below.refl _ _ | refine bA ?_ _ | refine Below.setCell ?_ (by simp) _)))).mono ?_; rintro e w1 ⟨rfl, rfl⟩
    go_wp2_with fail
    refine (unhide HNC _).mono ?_; rintro e w1 ⟨rfl, rfl⟩
    go_wp2
    go_ret
    exact ⟨congrArg (fun z => Ending.returned (.bool z)) HE.out.symm, (by (repeat (first | exact Below.refl _ _ | refine bA ?_ _ | refine Below.setCell ?_ (by simp) _)))⟩
  by_cases hN : 0 ≤ N
  rotate_left
  · have HE : Hid (dB (FitS ⟨3, N, 0, S, T, ks⟩ kd) = false) := dB_false (fun h => by simp [FitS, ← hq] at h <;> grind)
    clear hq hNd
    go_enter Tryz.func20, Tryz.ntmps20
    go_wp2_with fail
    refine (KC.out _ (by (repeat (first | exact Below.refl _ _ | refine bA ?_ _ | refine Below.setCell ?_ (by simp) _)))).mono ?_; rintro e w1 ⟨rfl, rfl⟩
    go_wp2_with fail
    refine (unhide HNC _).mono ?_; rintro e w1 ⟨rfl, rfl⟩
    go_wp2
    go_ret
    exact ⟨congrArg (fun z => Ending.returned (.bool z)) HE.out.symm, (by (repeat (first | exact Below.refl _ _ | refine bA ?_ _ | refine Below.setCell ?_ (by simp) _)))⟩
  · have HE : Hid (dB (FitS ⟨3, N, 0, S, T, ks⟩ kd) = shortB N) := by show _ = _; rw [Bool.eq_iff_iff, dB_iff]; simp [FitS, ← hq] <;> grind
    clear hq hNd
    go_enter Tryz.func20, Tryz.ntmps20
    go_wp2_with fail
    refine (KC.out _ (by (repeat (first | exact Below.refl _ _ | refine bA ?_ _ | refine Below.setCell ?_ (by simp) _)))).mono ?_; rintro e w1 ⟨rfl, rfl⟩
    go_wp2_with fail
    refine (unhide HNC _).mono ?_; rintro e w1 ⟨rfl, rfl⟩
    go_wp2_with fail
    refine (short_calls N _).mono ?_; rintro e w1 ⟨rfl, rfl⟩
    go_wp2
    go_ret
    exact ⟨congrArg (fun z => Ending.returned (.bool z)) HE.out.symm, (by (repeat (first | exact Below.refl _ _ | refine bA ?_ _ | refine Below.setCell ?_ (by simp) _)))⟩
end Go.Proofs.YtmcbmmpjhijagaaGreatDoor
