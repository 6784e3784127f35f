import Derived.Test.YtkdeilhkobcglaaDoorBase
namespace Go.Proofs.YtkdeilhkobcglaaDoor
open Go Go.RowKit
theorem ret_bool {a b : Bool} (h : a = b) : Ending.returned (.bool a) = .returned (.bool b) := by rw [h]
theorem ret_int {a b : Int} (h : a = b) : Ending.returned (.int .i64 a) = .returned (.int .i64 b) := by rw [h]
/-- how many values an Op takes off the stack; -1 where it is not valid -/
def tk (k n W : Int) : Int :=
  if k = 1 ∨ (k = 2 ∧ n = 0) then 0 else if k = 3 ∧ 0 ≤ n ∧ n < W then 0 else if k = 4 ∧ 1 ≤ n ∧ n ≤ 6 then 2
  else if (k = 5 ∨ k = 6) ∧ n = 0 then 2 else if (k = 7 ∨ k = 8) ∧ n = 0 then 1 else -1

set_option maxHeartbeats 2000000 in
theorem l1Takes_calls (k n W : Int) (w : World) :
    Calls Tryd.prog 96 #[.agg #[.int .i64 k, .int .i64 n], .int .i64 W] w fun e w' => e = .returned (.int .i64 (tk k n W)) ∧ Below w.heap.size w w' := by
  have hk : k = 1 ∨ k = 2 ∨ k = 3 ∨ k = 4 ∨ k = 5 ∨ k = 6 ∨ k = 7 ∨ k = 8 ∨ (k ≠ 1 ∧ k ≠ 2 ∧ k ≠ 3 ∧ k ≠ 4 ∧ k ≠ 5 ∧ k ≠ 6 ∧ k ≠ 7 ∧ k ≠ 8) := by omega
  rcases hk with rfl | rfl | rfl | rfl | rfl | rfl | rfl | rfl | ⟨h1, h2, h3, h4, h5, h6, h7, h8⟩
  · have HT : Hid (tk 1 n W = 0) := by show _ = _; simp [tk]
    go_enter Tryd.func96, Tryd.ntmps96
    go_wp2
    go_ret
    exact ⟨congrArg (fun z => Ending.returned (.int .i64 z)) HT.out.symm, bA (Below.refl _ _) _⟩
  · by_cases hn : n = 0
    · subst hn
      have HT : Hid (tk 2 0 W = 0) := by show _ = _; simp [tk]
      go_enter Tryd.func96, Tryd.ntmps96
      go_wp2
      go_ret
      exact ⟨congrArg (fun z => Ending.returned (.int .i64 z)) HT.out.symm, bA (Below.refl _ _) _⟩
    · have hb : (n == 0) = false := by simpa using hn
      have HT : Hid (tk 2 n W = -1) := by show _ = _; simp [tk, hn]
      clear hn
      go_enter Tryd.func96, Tryd.ntmps96
      go_wp2
      go_ret
      exact ⟨congrArg (fun z => Ending.returned (.int .i64 z)) HT.out.symm, bA (Below.refl _ _) _⟩
  · by_cases ha : 0 ≤ n
    · by_cases hb : n < W
      · have HT : Hid (tk 3 n W = 0) := by show _ = _; simp [tk, ha, hb]
        go_enter Tryd.func96, Tryd.ntmps96
        go_wp2
        go_ret
        exact ⟨congrArg (fun z => Ending.returned (.int .i64 z)) HT.out.symm, bA (Below.refl _ _) _⟩
      · have HT : Hid (tk 3 n W = -1) := by show _ = _; simp [tk, ha, hb]
        go_enter Tryd.func96, Tryd.ntmps96
        go_wp2
        go_ret
        exact ⟨congrArg (fun z => Ending.returned (.int .i64 z)) HT.out.symm, bA (Below.refl _ _) _⟩
    · have HT : Hid (tk 3 n W = -1) := by show _ = _; simp [tk, ha]
      go_enter Tryd.func96, Tryd.ntmps96
      go_wp2
      go_ret
      exact ⟨congrArg (fun z => Ending.returned (.int .i64 z)) HT.out.symm, bA (Below.refl _ _) _⟩
  · by_cases ha : 1 ≤ n
    · by_cases hb : n ≤ 6
      · have HT : Hid (tk 4 n W = 2) := by show _ = _; simp [tk, ha, hb]
        go_enter Tryd.func96, Tryd.ntmps96
        go_wp2
        go_ret
        exact ⟨congrArg (fun z => Ending.returned (.int .i64 z)) HT.out.symm, bA (Below.refl _ _) _⟩
      · have HT : Hid (tk 4 n W = -1) := by show _ = _; simp [tk, ha, hb]
        go_enter Tryd.func96, Tryd.ntmps96
        go_wp2
        go_ret
        exact ⟨congrArg (fun z => Ending.returned (.int .i64 z)) HT.out.symm, bA (Below.refl _ _) _⟩
    · have HT : Hid (tk 4 n W = -1) := by show _ = _; simp [tk, ha]
      go_enter Tryd.func96, Tryd.ntmps96
      go_wp2
      go_ret
      exact ⟨congrArg (fun z => Ending.returned (.int .i64 z)) HT.out.symm, bA (Below.refl _ _) _⟩
  · by_cases hn : n = 0
    · subst hn
      have HT : Hid (tk 5 0 W = 2) := by show _ = _; simp [tk]
      go_enter Tryd.func96, Tryd.ntmps96
      go_wp2
      go_ret
      exact ⟨congrArg (fun z => Ending.returned (.int .i64 z)) HT.out.symm, bA (Below.refl _ _) _⟩
    · have hb : (n == 0) = false := by simpa using hn
      have HT : Hid (tk 5 n W = -1) := by show _ = _; simp [tk, hn]
      clear hn
      go_enter Tryd.func96, Tryd.ntmps96
      go_wp2
      go_ret
      exact ⟨congrArg (fun z => Ending.returned (.int .i64 z)) HT.out.symm, bA (Below.refl _ _) _⟩
  · by_cases hn : n = 0
    · subst hn
      have HT : Hid (tk 6 0 W = 2) := by show _ = _; simp [tk]
      go_enter Tryd.func96, Tryd.ntmps96
      go_wp2
      go_ret
      exact ⟨congrArg (fun z => Ending.returned (.int .i64 z)) HT.out.symm, bA (Below.refl _ _) _⟩
    · have hb : (n == 0) = false := by simpa using hn
      have HT : Hid (tk 6 n W = -1) := by show _ = _; simp [tk, hn]
      clear hn
      go_enter Tryd.func96, Tryd.ntmps96
      go_wp2
      go_ret
      exact ⟨congrArg (fun z => Ending.returned (.int .i64 z)) HT.out.symm, bA (Below.refl _ _) _⟩
  · by_cases hn : n = 0
    · subst hn
      have HT : Hid (tk 7 0 W = 1) := by show _ = _; simp [tk]
      go_enter Tryd.func96, Tryd.ntmps96
      go_wp2
      go_ret
      exact ⟨congrArg (fun z => Ending.returned (.int .i64 z)) HT.out.symm, bA (Below.refl _ _) _⟩
    · have hb : (n == 0) = false := by simpa using hn
      have HT : Hid (tk 7 n W = -1) := by show _ = _; simp [tk, hn]
      clear hn
      go_enter Tryd.func96, Tryd.ntmps96
      go_wp2
      go_ret
      exact ⟨congrArg (fun z => Ending.returned (.int .i64 z)) HT.out.symm, bA (Below.refl _ _) _⟩
  · by_cases hn : n = 0
    · subst hn
      have HT : Hid (tk 8 0 W = 1) := by show _ = _; simp [tk]
      go_enter Tryd.func96, Tryd.ntmps96
      go_wp2
      go_ret
      exact ⟨congrArg (fun z => Ending.returned (.int .i64 z)) HT.out.symm, bA (Below.refl _ _) _⟩
    · have hb : (n == 0) = false := by simpa using hn
      have HT : Hid (tk 8 n W = -1) := by show _ = _; simp [tk, hn]
      clear hn
      go_enter Tryd.func96, Tryd.ntmps96
      go_wp2
      go_ret
      exact ⟨congrArg (fun z => Ending.returned (.int .i64 z)) HT.out.symm, bA (Below.refl _ _) _⟩
  · have b1 : (k == 1) = false := by simpa using h1
    have b2 : (k == 2) = false := by simpa using h2
    have b3 : (k == 3) = false := by simpa using h3
    have b4 : (k == 4) = false := by simpa using h4
    have b5 : (k == 5) = false := by simpa using h5
    have b6 : (k == 6) = false := by simpa using h6
    have b7 : (k == 7) = false := by simpa using h7
    have b8 : (k == 8) = false := by simpa using h8
    have HT : Hid (tk k n W = -1) := by show _ = _; simp [tk, h1, h2, h3, h4, h5, h6, h7, h8]
    go_enter Tryd.func96, Tryd.ntmps96
    go_wp2
    go_ret
    exact ⟨congrArg (fun z => Ending.returned (.int .i64 z)) HT.out.symm, bA (Below.refl _ _) _⟩

set_option maxHeartbeats 2000000 in
theorem opOk_calls (k n W : Int) (w : World) :
    Calls Tryd.prog 110 #[.agg #[.int .i64 k, .int .i64 n], .int .i64 W] w fun e w' => e = .returned (.bool (decide (0 ≤ tk k n W))) ∧ Below w.heap.size w w' := by
  have hk : k = 1 ∨ k = 2 ∨ k = 3 ∨ k = 4 ∨ k = 5 ∨ k = 6 ∨ k = 7 ∨ k = 8 ∨ (k ≠ 1 ∧ k ≠ 2 ∧ k ≠ 3 ∧ k ≠ 4 ∧ k ≠ 5 ∧ k ≠ 6 ∧ k ≠ 7 ∧ k ≠ 8) := by omega
  rcases hk with rfl | rfl | rfl | rfl | rfl | rfl | rfl | rfl | ⟨h1, h2, h3, h4, h5, h6, h7, h8⟩
  · have HT : Hid (tk 1 n W = 0) := by show _ = _; simp [tk]
    go_enter Tryd.func110, Tryd.ntmps110
    go_wp2
    go_ret
    exact ⟨ret_bool (by simp [HT.out]), bA (Below.refl _ _) _⟩
  · by_cases hn : n = 0
    · subst hn
      have HT : Hid (tk 2 0 W = 0) := by show _ = _; simp [tk]
      go_enter Tryd.func110, Tryd.ntmps110
      go_wp2
      go_ret
      exact ⟨ret_bool (by simp [HT.out]), bA (Below.refl _ _) _⟩
    · have hb : (n == 0) = false := by simpa using hn
      have HT : Hid (tk 2 n W = -1) := by show _ = _; simp [tk, hn]
      clear hn
      go_enter Tryd.func110, Tryd.ntmps110
      go_wp2
      go_ret
      exact ⟨ret_bool (by simp [HT.out]), bA (Below.refl _ _) _⟩
  · by_cases ha : 0 ≤ n
    · by_cases hb : n < W
      · have HT : Hid (tk 3 n W = 0) := by show _ = _; simp [tk, ha, hb]
        go_enter Tryd.func110, Tryd.ntmps110
        go_wp2
        go_ret
        exact ⟨ret_bool (by simp [HT.out]), bA (Below.refl _ _) _⟩
      · have HT : Hid (tk 3 n W = -1) := by show _ = _; simp [tk, ha, hb]
        go_enter Tryd.func110, Tryd.ntmps110
        go_wp2
        go_ret
        exact ⟨ret_bool (by simp [HT.out]), bA (Below.refl _ _) _⟩
    · have HT : Hid (tk 3 n W = -1) := by show _ = _; simp [tk, ha]
      go_enter Tryd.func110, Tryd.ntmps110
      go_wp2
      go_ret
      exact ⟨ret_bool (by simp [HT.out]), bA (Below.refl _ _) _⟩
  · by_cases ha : 1 ≤ n
    · by_cases hb : n ≤ 6
      · have HT : Hid (tk 4 n W = 2) := by show _ = _; simp [tk, ha, hb]
        go_enter Tryd.func110, Tryd.ntmps110
        go_wp2
        go_ret
        exact ⟨ret_bool (by simp [HT.out]), bA (Below.refl _ _) _⟩
      · have HT : Hid (tk 4 n W = -1) := by show _ = _; simp [tk, ha, hb]
        go_enter Tryd.func110, Tryd.ntmps110
        go_wp2
        go_ret
        exact ⟨ret_bool (by simp [HT.out]), bA (Below.refl _ _) _⟩
    · have HT : Hid (tk 4 n W = -1) := by show _ = _; simp [tk, ha]
      go_enter Tryd.func110, Tryd.ntmps110
      go_wp2
      go_ret
      exact ⟨ret_bool (by simp [HT.out]), bA (Below.refl _ _) _⟩
  · by_cases hn : n = 0
    · subst hn
      have HT : Hid (tk 5 0 W = 2) := by show _ = _; simp [tk]
      go_enter Tryd.func110, Tryd.ntmps110
      go_wp2
      go_ret
      exact ⟨ret_bool (by simp [HT.out]), bA (Below.refl _ _) _⟩
    · have hb : (n == 0) = false := by simpa using hn
      have HT : Hid (tk 5 n W = -1) := by show _ = _; simp [tk, hn]
      clear hn
      go_enter Tryd.func110, Tryd.ntmps110
      go_wp2
      go_ret
      exact ⟨ret_bool (by simp [HT.out]), bA (Below.refl _ _) _⟩
  · by_cases hn : n = 0
    · subst hn
      have HT : Hid (tk 6 0 W = 2) := by show _ = _; simp [tk]
      go_enter Tryd.func110, Tryd.ntmps110
      go_wp2
      go_ret
      exact ⟨ret_bool (by simp [HT.out]), bA (Below.refl _ _) _⟩
    · have hb : (n == 0) = false := by simpa using hn
      have HT : Hid (tk 6 n W = -1) := by show _ = _; simp [tk, hn]
      clear hn
      go_enter Tryd.func110, Tryd.ntmps110
      go_wp2
      go_ret
      exact ⟨ret_bool (by simp [HT.out]), bA (Below.refl _ _) _⟩
  · by_cases hn : n = 0
    · subst hn
      have HT : Hid (tk 7 0 W = 1) := by show _ = _; simp [tk]
      go_enter Tryd.func110, Tryd.ntmps110
      go_wp2
      go_ret
      exact ⟨ret_bool (by simp [HT.out]), bA (Below.refl _ _) _⟩
    · have hb : (n == 0) = false := by simpa using hn
      have HT : Hid (tk 7 n W = -1) := by show _ = _; simp [tk, hn]
      clear hn
      go_enter Tryd.func110, Tryd.ntmps110
      go_wp2
      go_ret
      exact ⟨ret_bool (by simp [HT.out]), bA (Below.refl _ _) _⟩
  · by_cases hn : n = 0
    · subst hn
      have HT : Hid (tk 8 0 W = 1) := by show _ = _; simp [tk]
      go_enter Tryd.func110, Tryd.ntmps110
      go_wp2
      go_ret
      exact ⟨ret_bool (by simp [HT.out]), bA (Below.refl _ _) _⟩
    · have hb : (n == 0) = false := by simpa using hn
      have HT : Hid (tk 8 n W = -1) := by show _ = _; simp [tk, hn]
      clear hn
      go_enter Tryd.func110, Tryd.ntmps110
      go_wp2
      go_ret
      exact ⟨ret_bool (by simp [HT.out]), bA (Below.refl _ _) _⟩
  · have b1 : (k == 1) = false := by simpa using h1
    have b2 : (k == 2) = false := by simpa using h2
    have b3 : (k == 3) = false := by simpa using h3
    have b4 : (k == 4) = false := by simpa using h4
    have b5 : (k == 5) = false := by simpa using h5
    have b6 : (k == 6) = false := by simpa using h6
    have b7 : (k == 7) = false := by simpa using h7
    have b8 : (k == 8) = false := by simpa using h8
    have HT : Hid (tk k n W = -1) := by show _ = _; simp [tk, h1, h2, h3, h4, h5, h6, h7, h8]
    go_enter Tryd.func110, Tryd.ntmps110
    go_wp2
    go_ret
    exact ⟨ret_bool (by simp [HT.out]), bA (Below.refl _ _) _⟩
end Go.Proofs.YtkdeilhkobcglaaDoor
