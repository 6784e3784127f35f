import Derived.Test.YtnchcndcinpalaaGreatDoorQ15
/-
  THE WIDTH OF A FLAT PLAN's NODE, as the specification finds it: kinds 6, 10.
-/
namespace Go.Proofs.YtnchcndcinpalaaGreatDoor
open Go Go.RowKit

set_option maxRecDepth 100000 in
set_option maxHeartbeats 4000000 in
theorem width4_6 (ts : List Tb) (T M Wd L R l r : Int) (Ex : List O2) (b4 b5 gt capt : Nat) (w : World) (hl0 : 0 ≤ l) (hl1 : l ≤ 200) (hr0 : 0 ≤ r) (hr1 : r ≤ 200) (hb4 : b4 < w.heap.size) (hx : OpsAt w b4 0 Ex) (l1 : Ex.length ≤ 1048576) :
    Calls Tryz.prog 57 #[.agg #[.int .i64 6, .int .i64 T, .int .i64 M, .int .i64 Wd, .slice (some ⟨b4, 0, none⟩) Ex.length Ex.length, .slice (some ⟨b5, 0, none⟩) 0 0, .int .i64 L, .int .i64 R], .agg #[.slice (some ⟨gt, 0, none⟩) ts.length capt], .int .i64 l, .int .i64 r] w fun e w' => e = .returned (.int .i64 (nodF ts ⟨6, T, M, Wd, Ex, [], L, R⟩ l r)) ∧ Below w.heap.size w w' := by
  have hbnd : 0 ≤ l ∧ l ≤ 200 ∧ 0 ≤ r ∧ r ≤ 200 := ⟨hl0, hl1, hr0, hr1⟩
  clear hbnd
  have HMat := hide (fun W => l4Matches_calls 6 W)
  rw [show decide (matK 6) = true by decide] at HMat
  have HUse := hide (fun W => l4UsesEx_calls 6 T M Wd L R (.slice (some ⟨b4, 0, none⟩) Ex.length Ex.length) (.slice (some ⟨b5, 0, none⟩) 0 0) W)
  rw [show decide (exK 6 M) = true from decide_eq_true (by unfold exK; omega)] at HUse
  have HEx := hide (fun W (hb : Below w.heap.size w W) => sExOk_calls Ex b4 0 Ex.length r W (Nat.lt_of_lt_of_le hb4 hb.size) (hx.of hb4 hb) l1)
  have HYes := hide (fun h => nodF_yes (ts := ts) (p := ⟨6, T, M, Wd, Ex, [], L, R⟩) (l := l) (r := r) h)
  have HNo := hide (fun h => nodF_no (ts := ts) (p := ⟨6, T, M, Wd, Ex, [], L, R⟩) (l := l) (r := r) h)
  clear hx hb4
  generalize nodF ts ⟨6, T, M, Wd, Ex, [], L, R⟩ l r = E at *
  have HS : Hid (SidP ⟨6, T, M, Wd, Ex, [], L, R⟩ l r ↔ (0 ≤ Wd ∧ Wd ≤ l ∧ Wd ≤ r) ∧ exOk r Ex = true) := by
    show _ ↔ _
    simp [SidP, matK, exK]
  by_cases hw1 : Wd < 0
  · have HE := hide (show E = -1 by exact unhide HNo (fun h => by have := (HS.out.1 h).1; omega))
    clear HYes HNo HS
    go_enter Tryz.func57, Tryz.ntmps57
    go_wp2_with fail
    refine (unhide HMat _).mono ?_; rintro e w1 ⟨rfl, rfl⟩
    go_wp2
    go_ret
    exact ⟨congrArg (fun z => Ending.returned (.int .i64 z)) (unhide HE).symm, bA (bA (Below.refl _ _) _) _⟩
  by_cases hw2 : l < Wd
  · have HE := hide (show E = -1 by exact unhide HNo (fun h => by have := (HS.out.1 h).1; omega))
    clear HYes HNo HS
    go_enter Tryz.func57, Tryz.ntmps57
    go_wp2_with fail
    refine (unhide HMat _).mono ?_; rintro e w1 ⟨rfl, rfl⟩
    go_wp2
    go_ret
    exact ⟨congrArg (fun z => Ending.returned (.int .i64 z)) (unhide HE).symm, bA (bA (Below.refl _ _) _) _⟩
  by_cases hw3 : r < Wd
  · have HE := hide (show E = -1 by exact unhide HNo (fun h => by have := (HS.out.1 h).1; omega))
    clear HYes HNo HS
    go_enter Tryz.func57, Tryz.ntmps57
    go_wp2_with fail
    refine (unhide HMat _).mono ?_; rintro e w1 ⟨rfl, rfl⟩
    go_wp2
    go_ret
    exact ⟨congrArg (fun z => Ending.returned (.int .i64 z)) (unhide HE).symm, bA (bA (Below.refl _ _) _) _⟩
  cases hX : exOk r Ex
  · rw [hX] at HEx
    have HE := hide (show E = -1 by exact unhide HNo (fun h => by have := (HS.out.1 h).2; rw [hX] at this; cases this))
    clear HYes HNo HS
    go_enter Tryz.func57, Tryz.ntmps57
    go_wp2_with fail
    refine (unhide HMat _).mono ?_; rintro e w1 ⟨rfl, rfl⟩
    go_wp2_with fail
    refine (unhide HUse _).mono ?_; rintro e w2 ⟨rfl, hb⟩
    have n2 := bT (bA (bA (Below.refl _ _) _) _ : Below w.heap.size w _) hb
    have F := NB.of (s := w.heap.size) (gt := gt) (nt := ts.length) (capt := capt) (K := 6) (T := T) (M := M) (Wd := Wd) (L := L) (R := R) (u4 := .slice (some ⟨b4, 0, none⟩) Ex.length Ex.length) (u5 := .slice (some ⟨b5, 0, none⟩) 0 0) ⟨by simp [go_sem], by simp [go_sem], by simp [go_sem], by simp [go_sem], by simp [go_sem], by simp [go_sem], by simp [go_sem], by simp [go_sem], by simp [go_sem], (by simp <;> omega), (by simp <;> omega)⟩ hb
    clear hb
    obtain ⟨f0, f1, f2, f3, f4, f5, f6, f7, fd, fs0, fs⟩ := id F
    go_wp2_with fail
    refine (unhide HEx _ n2).mono ?_; rintro e w3 ⟨rfl, hb⟩
    have n3 := bT n2 hb
    go_wp2
    go_ret
    exact ⟨congrArg (fun z => Ending.returned (.int .i64 z)) (unhide HE).symm, n3⟩
  · rw [hX] at HEx
    have HE := hide (show E = l + 1 by rw [unhide HYes (HS.out.2 ⟨⟨by omega, by omega, by omega⟩, hX⟩)]; simp [stepF])
    clear HYes HNo HS
    go_enter Tryz.func57, Tryz.ntmps57
    go_wp2_with fail
    refine (unhide HMat _).mono ?_; rintro e w1 ⟨rfl, rfl⟩
    go_wp2_with fail
    refine (unhide HUse _).mono ?_; rintro e w2 ⟨rfl, hb⟩
    have n2 := bT (bA (bA (Below.refl _ _) _) _ : Below w.heap.size w _) hb
    have F := NB.of (s := w.heap.size) (gt := gt) (nt := ts.length) (capt := capt) (K := 6) (T := T) (M := M) (Wd := Wd) (L := L) (R := R) (u4 := .slice (some ⟨b4, 0, none⟩) Ex.length Ex.length) (u5 := .slice (some ⟨b5, 0, none⟩) 0 0) ⟨by simp [go_sem], by simp [go_sem], by simp [go_sem], by simp [go_sem], by simp [go_sem], by simp [go_sem], by simp [go_sem], by simp [go_sem], by simp [go_sem], (by simp <;> omega), (by simp <;> omega)⟩ hb
    clear hb
    obtain ⟨f0, f1, f2, f3, f4, f5, f6, f7, fd, fs0, fs⟩ := id F
    go_wp2_with fail
    refine (unhide HEx _ n2).mono ?_; rintro e w3 ⟨rfl, hb⟩
    have n3 := bT n2 hb
    have F3 := F.of hb
    clear hb f0 f1 f2 f3 f4 f5 f6 f7 fd fs0 fs F n2
    obtain ⟨f0, f1, f2, f3, f4, f5, f6, f7, fd, fs0, fs⟩ := id F3
    go_wp2
    go_loopw [10] (fun c wr => c = .int .i64 0 ∧ wr = w3) (fun _ _ => 0)
    case atStart => exact ⟨rfl, rfl⟩
    case round =>
      obtain ⟨rfl, rfl⟩ := hrel
      go_wp2
      go_ret
      exact ⟨congrArg (fun z => Ending.returned (.int .i64 z)) (unhide HE).symm, n3⟩

set_option maxRecDepth 100000 in
set_option maxHeartbeats 4000000 in
theorem width4_10 (ts : List Tb) (T M Wd L R l r : Int) (Ex : List O2) (b4 b5 gt capt : Nat) (w : World) (hl0 : 0 ≤ l) (hl1 : l ≤ 200) (hr0 : 0 ≤ r) (hr1 : r ≤ 200) (hb4 : b4 < w.heap.size) (hx : OpsAt w b4 0 Ex) (l1 : Ex.length ≤ 1048576) :
    Calls Tryz.prog 57 #[.agg #[.int .i64 10, .int .i64 T, .int .i64 M, .int .i64 Wd, .slice (some ⟨b4, 0, none⟩) Ex.length Ex.length, .slice (some ⟨b5, 0, none⟩) 0 0, .int .i64 L, .int .i64 R], .agg #[.slice (some ⟨gt, 0, none⟩) ts.length capt], .int .i64 l, .int .i64 r] w fun e w' => e = .returned (.int .i64 (nodF ts ⟨10, T, M, Wd, Ex, [], L, R⟩ l r)) ∧ Below w.heap.size w w' := by
  have hbnd : 0 ≤ l ∧ l ≤ 200 ∧ 0 ≤ r ∧ r ≤ 200 := ⟨hl0, hl1, hr0, hr1⟩
  clear hbnd
  have HMat := hide (fun W => l4Matches_calls 10 W)
  rw [show decide (matK 10) = true by decide] at HMat
  have HUse := hide (fun W => l4UsesEx_calls 10 T M Wd L R (.slice (some ⟨b4, 0, none⟩) Ex.length Ex.length) (.slice (some ⟨b5, 0, none⟩) 0 0) W)
  rw [show decide (exK 10 M) = true from decide_eq_true (by unfold exK; omega)] at HUse
  have HEx := hide (fun W (hb : Below w.heap.size w W) => sExOk_calls Ex b4 0 Ex.length r W (Nat.lt_of_lt_of_le hb4 hb.size) (hx.of hb4 hb) l1)
  have HYes := hide (fun h => nodF_yes (ts := ts) (p := ⟨10, T, M, Wd, Ex, [], L, R⟩) (l := l) (r := r) h)
  have HNo := hide (fun h => nodF_no (ts := ts) (p := ⟨10, T, M, Wd, Ex, [], L, R⟩) (l := l) (r := r) h)
  clear hx hb4
  generalize nodF ts ⟨10, T, M, Wd, Ex, [], L, R⟩ l r = E at *
  have HS : Hid (SidP ⟨10, T, M, Wd, Ex, [], L, R⟩ l r ↔ (0 ≤ Wd ∧ Wd ≤ l ∧ Wd ≤ r) ∧ exOk r Ex = true) := by
    show _ ↔ _
    simp [SidP, matK, exK]
  by_cases hw1 : Wd < 0
  · have HE := hide (show E = -1 by exact unhide HNo (fun h => by have := (HS.out.1 h).1; omega))
    clear HYes HNo HS
    go_enter Tryz.func57, Tryz.ntmps57
    go_wp2_with fail
    refine (unhide HMat _).mono ?_; rintro e w1 ⟨rfl, rfl⟩
    go_wp2
    go_ret
    exact ⟨congrArg (fun z => Ending.returned (.int .i64 z)) (unhide HE).symm, bA (bA (Below.refl _ _) _) _⟩
  by_cases hw2 : l < Wd
  · have HE := hide (show E = -1 by exact unhide HNo (fun h => by have := (HS.out.1 h).1; omega))
    clear HYes HNo HS
    go_enter Tryz.func57, Tryz.ntmps57
    go_wp2_with fail
    refine (unhide HMat _).mono ?_; rintro e w1 ⟨rfl, rfl⟩
    go_wp2
    go_ret
    exact ⟨congrArg (fun z => Ending.returned (.int .i64 z)) (unhide HE).symm, bA (bA (Below.refl _ _) _) _⟩
  by_cases hw3 : r < Wd
  · have HE := hide (show E = -1 by exact unhide HNo (fun h => by have := (HS.out.1 h).1; omega))
    clear HYes HNo HS
    go_enter Tryz.func57, Tryz.ntmps57
    go_wp2_with fail
    refine (unhide HMat _).mono ?_; rintro e w1 ⟨rfl, rfl⟩
    go_wp2
    go_ret
    exact ⟨congrArg (fun z => Ending.returned (.int .i64 z)) (unhide HE).symm, bA (bA (Below.refl _ _) _) _⟩
  cases hX : exOk r Ex
  · rw [hX] at HEx
    have HE := hide (show E = -1 by exact unhide HNo (fun h => by have := (HS.out.1 h).2; rw [hX] at this; cases this))
    clear HYes HNo HS
    go_enter Tryz.func57, Tryz.ntmps57
    go_wp2_with fail
    refine (unhide HMat _).mono ?_; rintro e w1 ⟨rfl, rfl⟩
    go_wp2_with fail
    refine (unhide HUse _).mono ?_; rintro e w2 ⟨rfl, hb⟩
    have n2 := bT (bA (bA (Below.refl _ _) _) _ : Below w.heap.size w _) hb
    have F := NB.of (s := w.heap.size) (gt := gt) (nt := ts.length) (capt := capt) (K := 10) (T := T) (M := M) (Wd := Wd) (L := L) (R := R) (u4 := .slice (some ⟨b4, 0, none⟩) Ex.length Ex.length) (u5 := .slice (some ⟨b5, 0, none⟩) 0 0) ⟨by simp [go_sem], by simp [go_sem], by simp [go_sem], by simp [go_sem], by simp [go_sem], by simp [go_sem], by simp [go_sem], by simp [go_sem], by simp [go_sem], (by simp <;> omega), (by simp <;> omega)⟩ hb
    clear hb
    obtain ⟨f0, f1, f2, f3, f4, f5, f6, f7, fd, fs0, fs⟩ := id F
    go_wp2_with fail
    refine (unhide HEx _ n2).mono ?_; rintro e w3 ⟨rfl, hb⟩
    have n3 := bT n2 hb
    go_wp2
    go_ret
    exact ⟨congrArg (fun z => Ending.returned (.int .i64 z)) (unhide HE).symm, n3⟩
  · rw [hX] at HEx
    have HE := hide (show E = l by rw [unhide HYes (HS.out.2 ⟨⟨by omega, by omega, by omega⟩, hX⟩)]; simp [stepF])
    clear HYes HNo HS
    go_enter Tryz.func57, Tryz.ntmps57
    go_wp2_with fail
    refine (unhide HMat _).mono ?_; rintro e w1 ⟨rfl, rfl⟩
    go_wp2_with fail
    refine (unhide HUse _).mono ?_; rintro e w2 ⟨rfl, hb⟩
    have n2 := bT (bA (bA (Below.refl _ _) _) _ : Below w.heap.size w _) hb
    have F := NB.of (s := w.heap.size) (gt := gt) (nt := ts.length) (capt := capt) (K := 10) (T := T) (M := M) (Wd := Wd) (L := L) (R := R) (u4 := .slice (some ⟨b4, 0, none⟩) Ex.length Ex.length) (u5 := .slice (some ⟨b5, 0, none⟩) 0 0) ⟨by simp [go_sem], by simp [go_sem], by simp [go_sem], by simp [go_sem], by simp [go_sem], by simp [go_sem], by simp [go_sem], by simp [go_sem], by simp [go_sem], (by simp <;> omega), (by simp <;> omega)⟩ hb
    clear hb
    obtain ⟨f0, f1, f2, f3, f4, f5, f6, f7, fd, fs0, fs⟩ := id F
    go_wp2_with fail
    refine (unhide HEx _ n2).mono ?_; rintro e w3 ⟨rfl, hb⟩
    have n3 := bT n2 hb
    have F3 := F.of hb
    clear hb f0 f1 f2 f3 f4 f5 f6 f7 fd fs0 fs F n2
    obtain ⟨f0, f1, f2, f3, f4, f5, f6, f7, fd, fs0, fs⟩ := id F3
    go_wp2
    go_loopw [10] (fun c wr => c = .int .i64 0 ∧ wr = w3) (fun _ _ => 0)
    case atStart => exact ⟨rfl, rfl⟩
    case round =>
      obtain ⟨rfl, rfl⟩ := hrel
      go_wp2
      go_ret
      exact ⟨congrArg (fun z => Ending.returned (.int .i64 z)) (unhide HE).symm, n3⟩
end Go.Proofs.YtnchcndcinpalaaGreatDoor
/-
  THE WIDTH OF A FLAT PLAN's NODE, as the specification finds it: kinds 7, 11.
-/
namespace Go.Proofs.YtnchcndcinpalaaGreatDoor
open Go Go.RowKit

set_option maxRecDepth 100000 in
set_option maxHeartbeats 4000000 in
theorem width4_7 (ts : List Tb) (T M Wd L R l r : Int) (Ex : List O2) (b4 b5 gt capt : Nat) (w : World) (hl0 : 0 ≤ l) (hl1 : l ≤ 200) (hr0 : 0 ≤ r) (hr1 : r ≤ 200) (hb4 : b4 < w.heap.size) (hx : OpsAt w b4 0 Ex) (l1 : Ex.length ≤ 1048576) :
    Calls Tryz.prog 57 #[.agg #[.int .i64 7, .int .i64 T, .int .i64 M, .int .i64 Wd, .slice (some ⟨b4, 0, none⟩) Ex.length Ex.length, .slice (some ⟨b5, 0, none⟩) 0 0, .int .i64 L, .int .i64 R], .agg #[.slice (some ⟨gt, 0, none⟩) ts.length capt], .int .i64 l, .int .i64 r] w fun e w' => e = .returned (.int .i64 (nodF ts ⟨7, T, M, Wd, Ex, [], L, R⟩ l r)) ∧ Below w.heap.size w w' := by
  have hbnd : 0 ≤ l ∧ l ≤ 200 ∧ 0 ≤ r ∧ r ≤ 200 := ⟨hl0, hl1, hr0, hr1⟩
  clear hbnd
  have HMat := hide (fun W => l4Matches_calls 7 W)
  rw [show decide (matK 7) = true by decide] at HMat
  have HUse := hide (fun W => l4UsesEx_calls 7 T M Wd L R (.slice (some ⟨b4, 0, none⟩) Ex.length Ex.length) (.slice (some ⟨b5, 0, none⟩) 0 0) W)
  have HEx := hide (fun W (hb : Below w.heap.size w W) => sExOk_calls Ex b4 0 Ex.length r W (Nat.lt_of_lt_of_le hb4 hb.size) (hx.of hb4 hb) l1)
  have HYes := hide (fun h => nodF_yes (ts := ts) (p := ⟨7, T, M, Wd, Ex, [], L, R⟩) (l := l) (r := r) h)
  have HNo := hide (fun h => nodF_no (ts := ts) (p := ⟨7, T, M, Wd, Ex, [], L, R⟩) (l := l) (r := r) h)
  clear hx hb4
  generalize nodF ts ⟨7, T, M, Wd, Ex, [], L, R⟩ l r = E at *
  by_cases hM : M = 1
  · subst hM
    rw [show decide (exK 7 1) = false by decide] at HUse
    have HS : Hid (SidP ⟨7, T, 1, Wd, Ex, [], L, R⟩ l r ↔ (0 ≤ Wd ∧ Wd ≤ l ∧ Wd ≤ r)) := by
      show _ ↔ _
      simp [SidP, matK, exK]
    by_cases hw1 : Wd < 0
    · have HE := hide (show E = -1 by exact unhide HNo (fun h => by have := (HS.out.1 h); omega))
      clear HYes HNo HS
      go_enter Tryz.func57, Tryz.ntmps57
      go_wp2_with fail
      refine (unhide HMat _).mono ?_; rintro e w1 ⟨rfl, rfl⟩
      go_wp2
      go_ret
      exact ⟨congrArg (fun z => Ending.returned (.int .i64 z)) (unhide HE).symm, bA (bA (Below.refl _ _) _) _⟩
    by_cases hw2 : l < Wd
    · have HE := hide (show E = -1 by exact unhide HNo (fun h => by have := (HS.out.1 h); omega))
      clear HYes HNo HS
      go_enter Tryz.func57, Tryz.ntmps57
      go_wp2_with fail
      refine (unhide HMat _).mono ?_; rintro e w1 ⟨rfl, rfl⟩
      go_wp2
      go_ret
      exact ⟨congrArg (fun z => Ending.returned (.int .i64 z)) (unhide HE).symm, bA (bA (Below.refl _ _) _) _⟩
    by_cases hw3 : r < Wd
    · have HE := hide (show E = -1 by exact unhide HNo (fun h => by have := (HS.out.1 h); omega))
      clear HYes HNo HS
      go_enter Tryz.func57, Tryz.ntmps57
      go_wp2_with fail
      refine (unhide HMat _).mono ?_; rintro e w1 ⟨rfl, rfl⟩
      go_wp2
      go_ret
      exact ⟨congrArg (fun z => Ending.returned (.int .i64 z)) (unhide HE).symm, bA (bA (Below.refl _ _) _) _⟩
    have HE := hide (show E = l + 1 by rw [unhide HYes (HS.out.2 ⟨by omega, by omega, by omega⟩)]; simp [stepF])
    clear HYes HNo HS
    go_enter Tryz.func57, Tryz.ntmps57
    go_wp2_with fail
    refine (unhide HMat _).mono ?_; rintro e w1 ⟨rfl, rfl⟩
    go_wp2_with fail
    refine (unhide HUse _).mono ?_; rintro e w2 ⟨rfl, hb⟩
    have n2 := bT (bA (bA (Below.refl _ _) _) _ : Below w.heap.size w _) hb
    have F := NB.of (s := w.heap.size) (gt := gt) (nt := ts.length) (capt := capt) (K := 7) (T := T) (M := 1) (Wd := Wd) (L := L) (R := R) (u4 := .slice (some ⟨b4, 0, none⟩) Ex.length Ex.length) (u5 := .slice (some ⟨b5, 0, none⟩) 0 0) ⟨by simp [go_sem], by simp [go_sem], by simp [go_sem], by simp [go_sem], by simp [go_sem], by simp [go_sem], by simp [go_sem], by simp [go_sem], by simp [go_sem], (by simp <;> omega), (by simp <;> omega)⟩ hb
    clear hb
    obtain ⟨f0, f1, f2, f3, f4, f5, f6, f7, fd, fs0, fs⟩ := id F
    go_wp2
    go_loopw [10] (fun c wr => c = .int .i64 0 ∧ wr = w2) (fun _ _ => 0)
    case atStart => exact ⟨rfl, rfl⟩
    case round =>
      obtain ⟨rfl, rfl⟩ := hrel
      go_wp2
      go_ret
      exact ⟨congrArg (fun z => Ending.returned (.int .i64 z)) (unhide HE).symm, n2⟩
  · rw [show decide (exK 7 M) = true from decide_eq_true (by unfold exK; omega)] at HUse
    have HS : Hid (SidP ⟨7, T, M, Wd, Ex, [], L, R⟩ l r ↔ (0 ≤ Wd ∧ Wd ≤ l ∧ Wd ≤ r) ∧ exOk r Ex = true) := by
      show _ ↔ _
      simp [SidP, matK, exK, hM]
    by_cases hw1 : Wd < 0
    · have HE := hide (show E = -1 by exact unhide HNo (fun h => by have := (HS.out.1 h).1; omega))
      clear HYes HNo HS
      go_enter Tryz.func57, Tryz.ntmps57
      go_wp2_with fail
      refine (unhide HMat _).mono ?_; rintro e w1 ⟨rfl, rfl⟩
      go_wp2
      go_ret
      exact ⟨congrArg (fun z => Ending.returned (.int .i64 z)) (unhide HE).symm, bA (bA (Below.refl _ _) _) _⟩
    by_cases hw2 : l < Wd
    · have HE := hide (show E = -1 by exact unhide HNo (fun h => by have := (HS.out.1 h).1; omega))
      clear HYes HNo HS
      go_enter Tryz.func57, Tryz.ntmps57
      go_wp2_with fail
      refine (unhide HMat _).mono ?_; rintro e w1 ⟨rfl, rfl⟩
      go_wp2
      go_ret
      exact ⟨congrArg (fun z => Ending.returned (.int .i64 z)) (unhide HE).symm, bA (bA (Below.refl _ _) _) _⟩
    by_cases hw3 : r < Wd
    · have HE := hide (show E = -1 by exact unhide HNo (fun h => by have := (HS.out.1 h).1; omega))
      clear HYes HNo HS
      go_enter Tryz.func57, Tryz.ntmps57
      go_wp2_with fail
      refine (unhide HMat _).mono ?_; rintro e w1 ⟨rfl, rfl⟩
      go_wp2
      go_ret
      exact ⟨congrArg (fun z => Ending.returned (.int .i64 z)) (unhide HE).symm, bA (bA (Below.refl _ _) _) _⟩
    cases hX : exOk r Ex
    · rw [hX] at HEx
      have HE := hide (show E = -1 by exact unhide HNo (fun h => by have := (HS.out.1 h).2; rw [hX] at this; cases this))
      clear HYes HNo HS
      go_enter Tryz.func57, Tryz.ntmps57
      go_wp2_with fail
      refine (unhide HMat _).mono ?_; rintro e w1 ⟨rfl, rfl⟩
      go_wp2_with fail
      refine (unhide HUse _).mono ?_; rintro e w2 ⟨rfl, hb⟩
      have n2 := bT (bA (bA (Below.refl _ _) _) _ : Below w.heap.size w _) hb
      have F := NB.of (s := w.heap.size) (gt := gt) (nt := ts.length) (capt := capt) (K := 7) (T := T) (M := M) (Wd := Wd) (L := L) (R := R) (u4 := .slice (some ⟨b4, 0, none⟩) Ex.length Ex.length) (u5 := .slice (some ⟨b5, 0, none⟩) 0 0) ⟨by simp [go_sem], by simp [go_sem], by simp [go_sem], by simp [go_sem], by simp [go_sem], by simp [go_sem], by simp [go_sem], by simp [go_sem], by simp [go_sem], (by simp <;> omega), (by simp <;> omega)⟩ hb
      clear hb
      obtain ⟨f0, f1, f2, f3, f4, f5, f6, f7, fd, fs0, fs⟩ := id F
      go_wp2_with fail
      refine (unhide HEx _ n2).mono ?_; rintro e w3 ⟨rfl, hb⟩
      have n3 := bT n2 hb
      go_wp2
      go_ret
      exact ⟨congrArg (fun z => Ending.returned (.int .i64 z)) (unhide HE).symm, n3⟩
    · rw [hX] at HEx
      have HE := hide (show E = l + 1 by rw [unhide HYes (HS.out.2 ⟨⟨by omega, by omega, by omega⟩, hX⟩)]; simp [stepF])
      clear HYes HNo HS
      go_enter Tryz.func57, Tryz.ntmps57
      go_wp2_with fail
      refine (unhide HMat _).mono ?_; rintro e w1 ⟨rfl, rfl⟩
      go_wp2_with fail
      refine (unhide HUse _).mono ?_; rintro e w2 ⟨rfl, hb⟩
      have n2 := bT (bA (bA (Below.refl _ _) _) _ : Below w.heap.size w _) hb
      have F := NB.of (s := w.heap.size) (gt := gt) (nt := ts.length) (capt := capt) (K := 7) (T := T) (M := M) (Wd := Wd) (L := L) (R := R) (u4 := .slice (some ⟨b4, 0, none⟩) Ex.length Ex.length) (u5 := .slice (some ⟨b5, 0, none⟩) 0 0) ⟨by simp [go_sem], by simp [go_sem], by simp [go_sem], by simp [go_sem], by simp [go_sem], by simp [go_sem], by simp [go_sem], by simp [go_sem], by simp [go_sem], (by simp <;> omega), (by simp <;> omega)⟩ hb
      clear hb
      obtain ⟨f0, f1, f2, f3, f4, f5, f6, f7, fd, fs0, fs⟩ := id F
      go_wp2_with fail
      refine (unhide HEx _ n2).mono ?_; rintro e w3 ⟨rfl, hb⟩
      have n3 := bT n2 hb
      have F3 := F.of hb
      clear hb f0 f1 f2 f3 f4 f5 f6 f7 fd fs0 fs F n2
      obtain ⟨f0, f1, f2, f3, f4, f5, f6, f7, fd, fs0, fs⟩ := id F3
      go_wp2
      go_loopw [10] (fun c wr => c = .int .i64 0 ∧ wr = w3) (fun _ _ => 0)
      case atStart => exact ⟨rfl, rfl⟩
      case round =>
        obtain ⟨rfl, rfl⟩ := hrel
        go_wp2
        go_ret
        exact ⟨congrArg (fun z => Ending.returned (.int .i64 z)) (unhide HE).symm, n3⟩

set_option maxRecDepth 100000 in
set_option maxHeartbeats 4000000 in
theorem width4_11 (ts : List Tb) (T M Wd L R l r : Int) (Ex : List O2) (b4 b5 gt capt : Nat) (w : World) (hl0 : 0 ≤ l) (hl1 : l ≤ 200) (hr0 : 0 ≤ r) (hr1 : r ≤ 200) (hb4 : b4 < w.heap.size) (hx : OpsAt w b4 0 Ex) (l1 : Ex.length ≤ 1048576) :
    Calls Tryz.prog 57 #[.agg #[.int .i64 11, .int .i64 T, .int .i64 M, .int .i64 Wd, .slice (some ⟨b4, 0, none⟩) Ex.length Ex.length, .slice (some ⟨b5, 0, none⟩) 0 0, .int .i64 L, .int .i64 R], .agg #[.slice (some ⟨gt, 0, none⟩) ts.length capt], .int .i64 l, .int .i64 r] w fun e w' => e = .returned (.int .i64 (nodF ts ⟨11, T, M, Wd, Ex, [], L, R⟩ l r)) ∧ Below w.heap.size w w' := by
  have hbnd : 0 ≤ l ∧ l ≤ 200 ∧ 0 ≤ r ∧ r ≤ 200 := ⟨hl0, hl1, hr0, hr1⟩
  clear hbnd
  have HMat := hide (fun W => l4Matches_calls 11 W)
  rw [show decide (matK 11) = true by decide] at HMat
  have HUse := hide (fun W => l4UsesEx_calls 11 T M Wd L R (.slice (some ⟨b4, 0, none⟩) Ex.length Ex.length) (.slice (some ⟨b5, 0, none⟩) 0 0) W)
  rw [show decide (exK 11 M) = true from decide_eq_true (by unfold exK; omega)] at HUse
  have HEx := hide (fun W (hb : Below w.heap.size w W) => sExOk_calls Ex b4 0 Ex.length r W (Nat.lt_of_lt_of_le hb4 hb.size) (hx.of hb4 hb) l1)
  have HYes := hide (fun h => nodF_yes (ts := ts) (p := ⟨11, T, M, Wd, Ex, [], L, R⟩) (l := l) (r := r) h)
  have HNo := hide (fun h => nodF_no (ts := ts) (p := ⟨11, T, M, Wd, Ex, [], L, R⟩) (l := l) (r := r) h)
  clear hx hb4
  generalize nodF ts ⟨11, T, M, Wd, Ex, [], L, R⟩ l r = E at *
  have HS : Hid (SidP ⟨11, T, M, Wd, Ex, [], L, R⟩ l r ↔ (0 ≤ Wd ∧ Wd ≤ l ∧ Wd ≤ r) ∧ exOk r Ex = true) := by
    show _ ↔ _
    simp [SidP, matK, exK]
  by_cases hw1 : Wd < 0
  · have HE := hide (show E = -1 by exact unhide HNo (fun h => by have := (HS.out.1 h).1; omega))
    clear HYes HNo HS
    go_enter Tryz.func57, Tryz.ntmps57
    go_wp2_with fail
    refine (unhide HMat _).mono ?_; rintro e w1 ⟨rfl, rfl⟩
    go_wp2
    go_ret
    exact ⟨congrArg (fun z => Ending.returned (.int .i64 z)) (unhide HE).symm, bA (bA (Below.refl _ _) _) _⟩
  by_cases hw2 : l < Wd
  · have HE := hide (show E = -1 by exact unhide HNo (fun h => by have := (HS.out.1 h).1; omega))
    clear HYes HNo HS
    go_enter Tryz.func57, Tryz.ntmps57
    go_wp2_with fail
    refine (unhide HMat _).mono ?_; rintro e w1 ⟨rfl, rfl⟩
    go_wp2
    go_ret
    exact ⟨congrArg (fun z => Ending.returned (.int .i64 z)) (unhide HE).symm, bA (bA (Below.refl _ _) _) _⟩
  by_cases hw3 : r < Wd
  · have HE := hide (show E = -1 by exact unhide HNo (fun h => by have := (HS.out.1 h).1; omega))
    clear HYes HNo HS
    go_enter Tryz.func57, Tryz.ntmps57
    go_wp2_with fail
    refine (unhide HMat _).mono ?_; rintro e w1 ⟨rfl, rfl⟩
    go_wp2
    go_ret
    exact ⟨congrArg (fun z => Ending.returned (.int .i64 z)) (unhide HE).symm, bA (bA (Below.refl _ _) _) _⟩
  cases hX : exOk r Ex
  · rw [hX] at HEx
    have HE := hide (show E = -1 by exact unhide HNo (fun h => by have := (HS.out.1 h).2; rw [hX] at this; cases this))
    clear HYes HNo HS
    go_enter Tryz.func57, Tryz.ntmps57
    go_wp2_with fail
    refine (unhide HMat _).mono ?_; rintro e w1 ⟨rfl, rfl⟩
    go_wp2_with fail
    refine (unhide HUse _).mono ?_; rintro e w2 ⟨rfl, hb⟩
    have n2 := bT (bA (bA (Below.refl _ _) _) _ : Below w.heap.size w _) hb
    have F := NB.of (s := w.heap.size) (gt := gt) (nt := ts.length) (capt := capt) (K := 11) (T := T) (M := M) (Wd := Wd) (L := L) (R := R) (u4 := .slice (some ⟨b4, 0, none⟩) Ex.length Ex.length) (u5 := .slice (some ⟨b5, 0, none⟩) 0 0) ⟨by simp [go_sem], by simp [go_sem], by simp [go_sem], by simp [go_sem], by simp [go_sem], by simp [go_sem], by simp [go_sem], by simp [go_sem], by simp [go_sem], (by simp <;> omega), (by simp <;> omega)⟩ hb
    clear hb
    obtain ⟨f0, f1, f2, f3, f4, f5, f6, f7, fd, fs0, fs⟩ := id F
    go_wp2_with fail
    refine (unhide HEx _ n2).mono ?_; rintro e w3 ⟨rfl, hb⟩
    have n3 := bT n2 hb
    go_wp2
    go_ret
    exact ⟨congrArg (fun z => Ending.returned (.int .i64 z)) (unhide HE).symm, n3⟩
  · rw [hX] at HEx
    have HE := hide (show E = l by rw [unhide HYes (HS.out.2 ⟨⟨by omega, by omega, by omega⟩, hX⟩)]; simp [stepF])
    clear HYes HNo HS
    go_enter Tryz.func57, Tryz.ntmps57
    go_wp2_with fail
    refine (unhide HMat _).mono ?_; rintro e w1 ⟨rfl, rfl⟩
    go_wp2_with fail
    refine (unhide HUse _).mono ?_; rintro e w2 ⟨rfl, hb⟩
    have n2 := bT (bA (bA (Below.refl _ _) _) _ : Below w.heap.size w _) hb
    have F := NB.of (s := w.heap.size) (gt := gt) (nt := ts.length) (capt := capt) (K := 11) (T := T) (M := M) (Wd := Wd) (L := L) (R := R) (u4 := .slice (some ⟨b4, 0, none⟩) Ex.length Ex.length) (u5 := .slice (some ⟨b5, 0, none⟩) 0 0) ⟨by simp [go_sem], by simp [go_sem], by simp [go_sem], by simp [go_sem], by simp [go_sem], by simp [go_sem], by simp [go_sem], by simp [go_sem], by simp [go_sem], (by simp <;> omega), (by simp <;> omega)⟩ hb
    clear hb
    obtain ⟨f0, f1, f2, f3, f4, f5, f6, f7, fd, fs0, fs⟩ := id F
    go_wp2_with fail
    refine (unhide HEx _ n2).mono ?_; rintro e w3 ⟨rfl, hb⟩
    have n3 := bT n2 hb
    have F3 := F.of hb
    clear hb f0 f1 f2 f3 f4 f5 f6 f7 fd fs0 fs F n2
    obtain ⟨f0, f1, f2, f3, f4, f5, f6, f7, fd, fs0, fs⟩ := id F3
    go_wp2
    go_loopw [10] (fun c wr => c = .int .i64 0 ∧ wr = w3) (fun _ _ => 0)
    case atStart => exact ⟨rfl, rfl⟩
    case round =>
      obtain ⟨rfl, rfl⟩ := hrel
      go_wp2
      go_ret
      exact ⟨congrArg (fun z => Ending.returned (.int .i64 z)) (unhide HE).symm, n3⟩
end Go.Proofs.YtnchcndcinpalaaGreatDoor
