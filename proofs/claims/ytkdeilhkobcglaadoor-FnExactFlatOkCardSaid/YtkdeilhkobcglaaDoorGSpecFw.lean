import Derived.Test.YtkdeilhkobcglaaDoorSpecFlat1
import Derived.Test.YtkdeilhkobcglaaDoorSpecFlat2
import Derived.Test.YtkdeilhkobcglaaDoorSpecFlat3
import Derived.Test.YtkdeilhkobcglaaDoorSpecFlat4
import Derived.Test.YtkdeilhkobcglaaDoorSpecFlat5
import Derived.Test.YtkdeilhkobcglaaDoorGEx
import Derived.Test.YtkdeilhkobcglaaDoorGFlatKit
/-
  THE WIDTH OF A FLAT PLAN's NODE, as the specification finds it: what the walks share.
-/
namespace Go.Proofs.YtkdeilhkobcglaaDoor
open Go Go.RowKit

theorem nodF_yes {ts : List Tb} {p : Fn} {l r : Int} (h : SidP p l r) : nodF ts p l r = stepF ts p l r := by unfold nodF; rw [if_pos h]
theorem nodF_no {ts : List Tb} {p : Fn} {l r : Int} (h : ¬ SidP p l r) : nodF ts p l r = -1 := by unfold nodF; rw [if_neg h]
/-- the boxes of a node and of a Db -/
structure NB (s gt nt capt : Nat) (K T M Wd L R : Int) (u4 u5 : Value) (W : World) : Prop where
  c0 : W.cell? ⟨s, 0, none⟩ = some (.int .i64 K)
  c1 : W.cell? ⟨s, 1, none⟩ = some (.int .i64 T)
  c2 : W.cell? ⟨s, 2, none⟩ = some (.int .i64 M)
  c3 : W.cell? ⟨s, 3, none⟩ = some (.int .i64 Wd)
  c4 : W.cell? ⟨s, 4, none⟩ = some u4
  c5 : W.cell? ⟨s, 5, none⟩ = some u5
  c6 : W.cell? ⟨s, 6, none⟩ = some (.int .i64 L)
  c7 : W.cell? ⟨s, 7, none⟩ = some (.int .i64 R)
  d : W.cell? ⟨s + 1, 0, none⟩ = some (.slice (some ⟨gt, 0, none⟩) nt capt)
  sz0 : s < W.heap.size
  sz : s + 1 < W.heap.size
theorem NB.of {s gt nt capt : Nat} {K T M Wd L R : Int} {u4 u5 : Value} {W W1 : World} (h : NB s gt nt capt K T M Wd L R u4 u5 W) (hb : Below W.heap.size W W1) : NB s gt nt capt K T M Wd L R u4 u5 W1 := by
  have hs := h.sz
  have h0 := h.sz0
  exact ⟨(hb.cell (p := ⟨s, 0, none⟩) h0).trans h.c0, (hb.cell (p := ⟨s, 1, none⟩) h0).trans h.c1, (hb.cell (p := ⟨s, 2, none⟩) h0).trans h.c2, (hb.cell (p := ⟨s, 3, none⟩) h0).trans h.c3, (hb.cell (p := ⟨s, 4, none⟩) h0).trans h.c4, (hb.cell (p := ⟨s, 5, none⟩) h0).trans h.c5, (hb.cell (p := ⟨s, 6, none⟩) h0).trans h.c6, (hb.cell (p := ⟨s, 7, none⟩) h0).trans h.c7, (hb.cell (p := ⟨s + 1, 0, none⟩) hs).trans h.d, Nat.lt_of_lt_of_le h0 hb.size, Nat.lt_of_lt_of_le hs hb.size⟩

theorem l4Fields_calls (nt i : Nat) (K T M Wd L R : Int) (le ls : Nat) (a4 a5 : Option Addr) (c4 c5 g cap : Nat) (w : World) :
    Calls Tryd.prog 63 #[.agg #[.int .i64 K, .int .i64 T, .int .i64 M, .int .i64 Wd, .slice a4 le c4, .slice a5 ls c5, .int .i64 L, .int .i64 R], .int .i64 (i : Int), .agg #[.slice (some ⟨g, 0, none⟩) nt cap]] w fun e w' => e = .returned (.bool (dB (FldF nt i K T M Wd le ls L R))) ∧ Below w.heap.size w w' := by
  by_cases h1 : K < 1
  · have HE : Hid (dB (FldF nt i K T M Wd le ls L R) = false) := dB_false (fun h => by have := h.1; omega)
    generalize dB (FldF nt i K T M Wd le ls L R) = E at *
    go_enter Tryd.func63, Tryd.ntmps63
    go_wp2
    go_ret
    exact ⟨congrArg (fun z => Ending.returned (.bool z)) HE.out.symm, bA (bA (Below.refl _ _) _) _⟩
  by_cases h2 : 11 < K
  · have HE : Hid (dB (FldF nt i K T M Wd le ls L R) = false) := dB_false (fun h => by have := h.2.1; omega)
    generalize dB (FldF nt i K T M Wd le ls L R) = E at *
    go_enter Tryd.func63, Tryd.ntmps63
    go_wp2
    go_ret
    exact ⟨congrArg (fun z => Ending.returned (.bool z)) HE.out.symm, bA (bA (Below.refl _ _) _) _⟩
  have e : K = 1 ∨ K = 2 ∨ K = 3 ∨ K = 4 ∨ K = 5 ∨ K = 6 ∨ K = 7 ∨ K = 8 ∨ K = 9 ∨ K = 10 ∨ K = 11 := by omega
  rcases e with rfl | rfl | rfl | rfl | rfl | rfl | rfl | rfl | rfl | rfl | rfl
  · exact l4Fields_1 nt i T M Wd L R le ls a4 a5 c4 c5 g cap w
  · exact l4Fields_2 nt i T M Wd L R le ls a4 a5 c4 c5 g cap w
  · exact l4Fields_3 nt i T M Wd L R le ls a4 a5 c4 c5 g cap w
  · exact l4Fields_4 nt i T M Wd L R le ls a4 a5 c4 c5 g cap w
  · exact l4Fields_5 nt i T M Wd L R le ls a4 a5 c4 c5 g cap w
  · exact l4Fields_6 nt i T M Wd L R le ls a4 a5 c4 c5 g cap w
  · exact l4Fields_7 nt i T M Wd L R le ls a4 a5 c4 c5 g cap w
  · exact l4Fields_8 nt i T M Wd L R le ls a4 a5 c4 c5 g cap w
  · exact l4Fields_9 nt i T M Wd L R le ls a4 a5 c4 c5 g cap w
  · exact l4Fields_10 nt i T M Wd L R le ls a4 a5 c4 c5 g cap w
  · exact l4Fields_11 nt i T M Wd L R le ls a4 a5 c4 c5 g cap w
end Go.Proofs.YtkdeilhkobcglaaDoor
/-
  THE WIDTH OF A FLAT PLAN's NODE, as the specification finds it: kinds 3, 5, 8, 9.
-/
namespace Go.Proofs.YtkdeilhkobcglaaDoor
open Go Go.RowKit

set_option maxRecDepth 100000 in
set_option maxHeartbeats 4000000 in
theorem width4_3 (ts : List Tb) (T M Wd L R l r : Int) (Ex : List O2) (b4 b5 gt capt : Nat) (w : World) (hl0 : 0 ≤ l) (hl1 : l ≤ 200) (hr0 : 0 ≤ r) (hr1 : r ≤ 200) (hb4 : b4 < w.heap.size) (hx : OpsAt w b4 0 Ex) (l1 : Ex.length ≤ 1048576) :
    Calls Tryd.prog 66 #[.agg #[.int .i64 3, .int .i64 T, .int .i64 M, .int .i64 Wd, .slice (some ⟨b4, 0, none⟩) Ex.length Ex.length, .slice (some ⟨b5, 0, none⟩) 0 0, .int .i64 L, .int .i64 R], .agg #[.slice (some ⟨gt, 0, none⟩) ts.length capt], .int .i64 l, .int .i64 r] w fun e w' => e = .returned (.int .i64 (nodF ts ⟨3, T, M, Wd, Ex, [], L, R⟩ l r)) ∧ Below w.heap.size w w' := by
  have hbnd : 0 ≤ l ∧ l ≤ 200 ∧ 0 ≤ r ∧ r ≤ 200 := ⟨hl0, hl1, hr0, hr1⟩
  clear hbnd
  have HMat := hide (fun W => l4Matches_calls 3 W)
  rw [show decide (matK 3) = false by decide] at HMat
  have HUse := hide (fun W => l4UsesEx_calls 3 T M Wd L R (.slice (some ⟨b4, 0, none⟩) Ex.length Ex.length) (.slice (some ⟨b5, 0, none⟩) 0 0) W)
  rw [show decide (exK 3 M) = true from decide_eq_true (by unfold exK; omega)] at HUse
  have HEx := hide (fun W (hb : Below w.heap.size w W) => sExOk_calls Ex b4 0 Ex.length l W (Nat.lt_of_lt_of_le hb4 hb.size) (hx.of hb4 hb) l1)
  have HYes := hide (fun h => nodF_yes (ts := ts) (p := ⟨3, T, M, Wd, Ex, [], L, R⟩) (l := l) (r := r) h)
  have HNo := hide (fun h => nodF_no (ts := ts) (p := ⟨3, T, M, Wd, Ex, [], L, R⟩) (l := l) (r := r) h)
  clear hx hb4
  generalize nodF ts ⟨3, T, M, Wd, Ex, [], L, R⟩ l r = E at *
  have HS : Hid (SidP ⟨3, T, M, Wd, Ex, [], L, R⟩ l r ↔ exOk l Ex = true) := by
    show _ ↔ _
    simp [SidP, matK, exK]
  cases hX : exOk l Ex
  · rw [hX] at HEx
    have HE := hide (show E = -1 by exact unhide HNo (fun h => by have := (HS.out.1 h); rw [hX] at this; cases this))
    clear HYes HNo HS
    go_enter Tryd.func66, Tryd.ntmps66
    go_wp2_with fail
    refine (unhide HMat _).mono ?_; rintro e w1 ⟨rfl, rfl⟩
    go_wp2_with fail
    refine (unhide HUse _).mono ?_; rintro e w2 ⟨rfl, hb⟩
    have n2 := bT (bA (bA (Below.refl _ _) _) _ : Below w.heap.size w _) hb
    have F := NB.of (s := w.heap.size) (gt := gt) (nt := ts.length) (capt := capt) (K := 3) (T := T) (M := M) (Wd := Wd) (L := L) (R := R) (u4 := .slice (some ⟨b4, 0, none⟩) Ex.length Ex.length) (u5 := .slice (some ⟨b5, 0, none⟩) 0 0) ⟨by simp [go_sem], by simp [go_sem], by simp [go_sem], by simp [go_sem], by simp [go_sem], by simp [go_sem], by simp [go_sem], by simp [go_sem], by simp [go_sem], (by simp <;> omega), (by simp <;> omega)⟩ hb
    clear hb
    obtain ⟨f0, f1, f2, f3, f4, f5, f6, f7, fd, fs0, fs⟩ := id F
    go_wp2_with fail
    refine (unhide HEx _ n2).mono ?_; rintro e w3 ⟨rfl, hb⟩
    have n3 := bT n2 hb
    go_wp2
    go_ret
    exact ⟨congrArg (fun z => Ending.returned (.int .i64 z)) (unhide HE).symm, n3⟩
  · rw [hX] at HEx
    have HE := hide (show E = l by rw [unhide HYes (HS.out.2 hX)]; simp [stepF])
    clear HYes HNo HS
    go_enter Tryd.func66, Tryd.ntmps66
    go_wp2_with fail
    refine (unhide HMat _).mono ?_; rintro e w1 ⟨rfl, rfl⟩
    go_wp2_with fail
    refine (unhide HUse _).mono ?_; rintro e w2 ⟨rfl, hb⟩
    have n2 := bT (bA (bA (Below.refl _ _) _) _ : Below w.heap.size w _) hb
    have F := NB.of (s := w.heap.size) (gt := gt) (nt := ts.length) (capt := capt) (K := 3) (T := T) (M := M) (Wd := Wd) (L := L) (R := R) (u4 := .slice (some ⟨b4, 0, none⟩) Ex.length Ex.length) (u5 := .slice (some ⟨b5, 0, none⟩) 0 0) ⟨by simp [go_sem], by simp [go_sem], by simp [go_sem], by simp [go_sem], by simp [go_sem], by simp [go_sem], by simp [go_sem], by simp [go_sem], by simp [go_sem], (by simp <;> omega), (by simp <;> omega)⟩ hb
    clear hb
    obtain ⟨f0, f1, f2, f3, f4, f5, f6, f7, fd, fs0, fs⟩ := id F
    go_wp2_with fail
    refine (unhide HEx _ n2).mono ?_; rintro e w3 ⟨rfl, hb⟩
    have n3 := bT n2 hb
    have F3 := F.of hb
    clear hb f0 f1 f2 f3 f4 f5 f6 f7 fd fs0 fs F n2
    obtain ⟨f0, f1, f2, f3, f4, f5, f6, f7, fd, fs0, fs⟩ := id F3
    go_wp2
    go_loopw [10] (fun c wr => c = .int .i64 0 ∧ wr = w3) (fun _ _ => 0)
    case atStart => exact ⟨rfl, rfl⟩
    case round =>
      obtain ⟨rfl, rfl⟩ := hrel
      go_wp2
      go_ret
      exact ⟨congrArg (fun z => Ending.returned (.int .i64 z)) (unhide HE).symm, n3⟩

set_option maxRecDepth 100000 in
set_option maxHeartbeats 4000000 in
theorem width4_5 (ts : List Tb) (T M Wd L R l r : Int) (Ex : List O2) (b4 b5 gt capt : Nat) (w : World) (hl0 : 0 ≤ l) (hl1 : l ≤ 200) (hr0 : 0 ≤ r) (hr1 : r ≤ 200) (hb4 : b4 < w.heap.size) (hx : OpsAt w b4 0 Ex) (l1 : Ex.length ≤ 1048576) :
    Calls Tryd.prog 66 #[.agg #[.int .i64 5, .int .i64 T, .int .i64 M, .int .i64 Wd, .slice (some ⟨b4, 0, none⟩) Ex.length Ex.length, .slice (some ⟨b5, 0, none⟩) 0 0, .int .i64 L, .int .i64 R], .agg #[.slice (some ⟨gt, 0, none⟩) ts.length capt], .int .i64 l, .int .i64 r] w fun e w' => e = .returned (.int .i64 (nodF ts ⟨5, T, M, Wd, Ex, [], L, R⟩ l r)) ∧ Below w.heap.size w w' := by
  have hbnd : 0 ≤ l ∧ l ≤ 200 ∧ 0 ≤ r ∧ r ≤ 200 := ⟨hl0, hl1, hr0, hr1⟩
  clear hbnd
  have HMat := hide (fun W => l4Matches_calls 5 W)
  rw [show decide (matK 5) = true by decide] at HMat
  have HUse := hide (fun W => l4UsesEx_calls 5 T M Wd L R (.slice (some ⟨b4, 0, none⟩) Ex.length Ex.length) (.slice (some ⟨b5, 0, none⟩) 0 0) W)
  rw [show decide (exK 5 M) = false from decide_eq_false (by unfold exK; omega)] at HUse
  have HEx := hide (fun W (hb : Below w.heap.size w W) => sExOk_calls Ex b4 0 Ex.length r W (Nat.lt_of_lt_of_le hb4 hb.size) (hx.of hb4 hb) l1)
  have HYes := hide (fun h => nodF_yes (ts := ts) (p := ⟨5, T, M, Wd, Ex, [], L, R⟩) (l := l) (r := r) h)
  have HNo := hide (fun h => nodF_no (ts := ts) (p := ⟨5, T, M, Wd, Ex, [], L, R⟩) (l := l) (r := r) h)
  clear hx hb4
  generalize nodF ts ⟨5, T, M, Wd, Ex, [], L, R⟩ l r = E at *
  have HS : Hid (SidP ⟨5, T, M, Wd, Ex, [], L, R⟩ l r ↔ (0 ≤ Wd ∧ Wd ≤ l ∧ Wd ≤ r)) := by
    show _ ↔ _
    simp [SidP, matK, exK]
  by_cases hw1 : Wd < 0
  · have HE := hide (show E = -1 by exact unhide HNo (fun h => by have := (HS.out.1 h); omega))
    clear HYes HNo HS
    go_enter Tryd.func66, Tryd.ntmps66
    go_wp2_with fail
    refine (unhide HMat _).mono ?_; rintro e w1 ⟨rfl, rfl⟩
    go_wp2
    go_ret
    exact ⟨congrArg (fun z => Ending.returned (.int .i64 z)) (unhide HE).symm, bA (bA (Below.refl _ _) _) _⟩
  by_cases hw2 : l < Wd
  · have HE := hide (show E = -1 by exact unhide HNo (fun h => by have := (HS.out.1 h); omega))
    clear HYes HNo HS
    go_enter Tryd.func66, Tryd.ntmps66
    go_wp2_with fail
    refine (unhide HMat _).mono ?_; rintro e w1 ⟨rfl, rfl⟩
    go_wp2
    go_ret
    exact ⟨congrArg (fun z => Ending.returned (.int .i64 z)) (unhide HE).symm, bA (bA (Below.refl _ _) _) _⟩
  by_cases hw3 : r < Wd
  · have HE := hide (show E = -1 by exact unhide HNo (fun h => by have := (HS.out.1 h); omega))
    clear HYes HNo HS
    go_enter Tryd.func66, Tryd.ntmps66
    go_wp2_with fail
    refine (unhide HMat _).mono ?_; rintro e w1 ⟨rfl, rfl⟩
    go_wp2
    go_ret
    exact ⟨congrArg (fun z => Ending.returned (.int .i64 z)) (unhide HE).symm, bA (bA (Below.refl _ _) _) _⟩
  have HE := hide (show E = l + r - Wd by rw [unhide HYes (HS.out.2 ⟨by omega, by omega, by omega⟩)]; simp [stepF])
  clear HYes HNo HS
  go_enter Tryd.func66, Tryd.ntmps66
  go_wp2_with fail
  refine (unhide HMat _).mono ?_; rintro e w1 ⟨rfl, rfl⟩
  go_wp2_with fail
  refine (unhide HUse _).mono ?_; rintro e w2 ⟨rfl, hb⟩
  have n2 := bT (bA (bA (Below.refl _ _) _) _ : Below w.heap.size w _) hb
  have F := NB.of (s := w.heap.size) (gt := gt) (nt := ts.length) (capt := capt) (K := 5) (T := T) (M := M) (Wd := Wd) (L := L) (R := R) (u4 := .slice (some ⟨b4, 0, none⟩) Ex.length Ex.length) (u5 := .slice (some ⟨b5, 0, none⟩) 0 0) ⟨by simp [go_sem], by simp [go_sem], by simp [go_sem], by simp [go_sem], by simp [go_sem], by simp [go_sem], by simp [go_sem], by simp [go_sem], by simp [go_sem], (by simp <;> omega), (by simp <;> omega)⟩ hb
  clear hb
  obtain ⟨f0, f1, f2, f3, f4, f5, f6, f7, fd, fs0, fs⟩ := id F
  go_wp2
  go_loopw [10] (fun c wr => c = .int .i64 0 ∧ wr = w2) (fun _ _ => 0)
  case atStart => exact ⟨rfl, rfl⟩
  case round =>
    obtain ⟨rfl, rfl⟩ := hrel
    go_wp2
    go_ret
    exact ⟨congrArg (fun z => Ending.returned (.int .i64 z)) (unhide HE).symm, n2⟩

set_option maxRecDepth 100000 in
set_option maxHeartbeats 4000000 in
theorem width4_8 (ts : List Tb) (T M Wd L R l r : Int) (Ex : List O2) (b4 b5 gt capt : Nat) (w : World) (hl0 : 0 ≤ l) (hl1 : l ≤ 200) (hr0 : 0 ≤ r) (hr1 : r ≤ 200) (hb4 : b4 < w.heap.size) (hx : OpsAt w b4 0 Ex) (l1 : Ex.length ≤ 1048576) :
    Calls Tryd.prog 66 #[.agg #[.int .i64 8, .int .i64 T, .int .i64 M, .int .i64 Wd, .slice (some ⟨b4, 0, none⟩) Ex.length Ex.length, .slice (some ⟨b5, 0, none⟩) 0 0, .int .i64 L, .int .i64 R], .agg #[.slice (some ⟨gt, 0, none⟩) ts.length capt], .int .i64 l, .int .i64 r] w fun e w' => e = .returned (.int .i64 (nodF ts ⟨8, T, M, Wd, Ex, [], L, R⟩ l r)) ∧ Below w.heap.size w w' := by
  have hbnd : 0 ≤ l ∧ l ≤ 200 ∧ 0 ≤ r ∧ r ≤ 200 := ⟨hl0, hl1, hr0, hr1⟩
  clear hbnd
  have HMat := hide (fun W => l4Matches_calls 8 W)
  rw [show decide (matK 8) = false by decide] at HMat
  have HUse := hide (fun W => l4UsesEx_calls 8 T M Wd L R (.slice (some ⟨b4, 0, none⟩) Ex.length Ex.length) (.slice (some ⟨b5, 0, none⟩) 0 0) W)
  rw [show decide (exK 8 M) = false from decide_eq_false (by unfold exK; omega)] at HUse
  have HEx := hide (fun W (hb : Below w.heap.size w W) => sExOk_calls Ex b4 0 Ex.length r W (Nat.lt_of_lt_of_le hb4 hb.size) (hx.of hb4 hb) l1)
  have HYes := hide (fun h => nodF_yes (ts := ts) (p := ⟨8, T, M, Wd, Ex, [], L, R⟩) (l := l) (r := r) h)
  have HNo := hide (fun h => nodF_no (ts := ts) (p := ⟨8, T, M, Wd, Ex, [], L, R⟩) (l := l) (r := r) h)
  clear hx hb4
  generalize nodF ts ⟨8, T, M, Wd, Ex, [], L, R⟩ l r = E at *
  have HS : Hid (SidP ⟨8, T, M, Wd, Ex, [], L, R⟩ l r ↔ True) := by
    show _ ↔ _
    simp [SidP, matK, exK]
  have HE := hide (show E = l by rw [unhide HYes (HS.out.2 trivial)]; simp [stepF])
  clear HYes HNo HS
  go_enter Tryd.func66, Tryd.ntmps66
  go_wp2_with fail
  refine (unhide HMat _).mono ?_; rintro e w1 ⟨rfl, rfl⟩
  go_wp2_with fail
  refine (unhide HUse _).mono ?_; rintro e w2 ⟨rfl, hb⟩
  have n2 := bT (bA (bA (Below.refl _ _) _) _ : Below w.heap.size w _) hb
  have F := NB.of (s := w.heap.size) (gt := gt) (nt := ts.length) (capt := capt) (K := 8) (T := T) (M := M) (Wd := Wd) (L := L) (R := R) (u4 := .slice (some ⟨b4, 0, none⟩) Ex.length Ex.length) (u5 := .slice (some ⟨b5, 0, none⟩) 0 0) ⟨by simp [go_sem], by simp [go_sem], by simp [go_sem], by simp [go_sem], by simp [go_sem], by simp [go_sem], by simp [go_sem], by simp [go_sem], by simp [go_sem], (by simp <;> omega), (by simp <;> omega)⟩ hb
  clear hb
  obtain ⟨f0, f1, f2, f3, f4, f5, f6, f7, fd, fs0, fs⟩ := id F
  go_wp2
  go_loopw [10] (fun c wr => c = .int .i64 0 ∧ wr = w2) (fun _ _ => 0)
  case atStart => exact ⟨rfl, rfl⟩
  case round =>
    obtain ⟨rfl, rfl⟩ := hrel
    go_wp2
    go_ret
    exact ⟨congrArg (fun z => Ending.returned (.int .i64 z)) (unhide HE).symm, n2⟩

set_option maxRecDepth 100000 in
set_option maxHeartbeats 4000000 in
theorem width4_9 (ts : List Tb) (T M Wd L R l r : Int) (Ex : List O2) (b4 b5 gt capt : Nat) (w : World) (hl0 : 0 ≤ l) (hl1 : l ≤ 200) (hr0 : 0 ≤ r) (hr1 : r ≤ 200) (hb4 : b4 < w.heap.size) (hx : OpsAt w b4 0 Ex) (l1 : Ex.length ≤ 1048576) :
    Calls Tryd.prog 66 #[.agg #[.int .i64 9, .int .i64 T, .int .i64 M, .int .i64 Wd, .slice (some ⟨b4, 0, none⟩) Ex.length Ex.length, .slice (some ⟨b5, 0, none⟩) 0 0, .int .i64 L, .int .i64 R], .agg #[.slice (some ⟨gt, 0, none⟩) ts.length capt], .int .i64 l, .int .i64 r] w fun e w' => e = .returned (.int .i64 (nodF ts ⟨9, T, M, Wd, Ex, [], L, R⟩ l r)) ∧ Below w.heap.size w w' := by
  have hbnd : 0 ≤ l ∧ l ≤ 200 ∧ 0 ≤ r ∧ r ≤ 200 := ⟨hl0, hl1, hr0, hr1⟩
  clear hbnd
  have HMat := hide (fun W => l4Matches_calls 9 W)
  rw [show decide (matK 9) = false by decide] at HMat
  have HUse := hide (fun W => l4UsesEx_calls 9 T M Wd L R (.slice (some ⟨b4, 0, none⟩) Ex.length Ex.length) (.slice (some ⟨b5, 0, none⟩) 0 0) W)
  rw [show decide (exK 9 M) = false from decide_eq_false (by unfold exK; omega)] at HUse
  have HEx := hide (fun W (hb : Below w.heap.size w W) => sExOk_calls Ex b4 0 Ex.length r W (Nat.lt_of_lt_of_le hb4 hb.size) (hx.of hb4 hb) l1)
  have HYes := hide (fun h => nodF_yes (ts := ts) (p := ⟨9, T, M, Wd, Ex, [], L, R⟩) (l := l) (r := r) h)
  have HNo := hide (fun h => nodF_no (ts := ts) (p := ⟨9, T, M, Wd, Ex, [], L, R⟩) (l := l) (r := r) h)
  clear hx hb4
  generalize nodF ts ⟨9, T, M, Wd, Ex, [], L, R⟩ l r = E at *
  have HS : Hid (SidP ⟨9, T, M, Wd, Ex, [], L, R⟩ l r ↔ l = r) := by
    show _ ↔ _
    simp [SidP, matK, exK]
  by_cases h9 : l = r
  · subst h9
    have h9' : (l != l) = false := by simp
    have HE := hide (show E = l by rw [unhide HYes (HS.out.2 rfl)]; simp [stepF])
    clear HYes HNo HS
    go_enter Tryd.func66, Tryd.ntmps66
    go_wp2_with fail
    refine (unhide HMat _).mono ?_; rintro e w1 ⟨rfl, rfl⟩
    go_wp2_with fail
    refine (unhide HUse _).mono ?_; rintro e w2 ⟨rfl, hb⟩
    have n2 := bT (bA (bA (Below.refl _ _) _) _ : Below w.heap.size w _) hb
    have F := NB.of (s := w.heap.size) (gt := gt) (nt := ts.length) (capt := capt) (K := 9) (T := T) (M := M) (Wd := Wd) (L := L) (R := R) (u4 := .slice (some ⟨b4, 0, none⟩) Ex.length Ex.length) (u5 := .slice (some ⟨b5, 0, none⟩) 0 0) ⟨by simp [go_sem], by simp [go_sem], by simp [go_sem], by simp [go_sem], by simp [go_sem], by simp [go_sem], by simp [go_sem], by simp [go_sem], by simp [go_sem], (by simp <;> omega), (by simp <;> omega)⟩ hb
    clear hb
    obtain ⟨f0, f1, f2, f3, f4, f5, f6, f7, fd, fs0, fs⟩ := id F
    go_wp2
    go_loopw [10] (fun c wr => c = .int .i64 0 ∧ wr = w2) (fun _ _ => 0)
    case atStart => exact ⟨rfl, rfl⟩
    case round =>
      obtain ⟨rfl, rfl⟩ := hrel
      go_wp2
      go_ret
      exact ⟨congrArg (fun z => Ending.returned (.int .i64 z)) (unhide HE).symm, n2⟩
  · have h9' : (l != r) = true := by simp [h9]
    have HE := hide (show E = -1 by exact unhide HNo (fun h => by have := HS.out.1 h; omega))
    clear HYes HNo HS
    go_enter Tryd.func66, Tryd.ntmps66
    go_wp2_with fail
    refine (unhide HMat _).mono ?_; rintro e w1 ⟨rfl, rfl⟩
    go_wp2_with fail
    refine (unhide HUse _).mono ?_; rintro e w2 ⟨rfl, hb⟩
    have n2 := bT (bA (bA (Below.refl _ _) _) _ : Below w.heap.size w _) hb
    have F := NB.of (s := w.heap.size) (gt := gt) (nt := ts.length) (capt := capt) (K := 9) (T := T) (M := M) (Wd := Wd) (L := L) (R := R) (u4 := .slice (some ⟨b4, 0, none⟩) Ex.length Ex.length) (u5 := .slice (some ⟨b5, 0, none⟩) 0 0) ⟨by simp [go_sem], by simp [go_sem], by simp [go_sem], by simp [go_sem], by simp [go_sem], by simp [go_sem], by simp [go_sem], by simp [go_sem], by simp [go_sem], (by simp <;> omega), (by simp <;> omega)⟩ hb
    clear hb
    obtain ⟨f0, f1, f2, f3, f4, f5, f6, f7, fd, fs0, fs⟩ := id F
    go_wp2
    go_loopw [10] (fun c wr => c = .int .i64 0 ∧ wr = w2) (fun _ _ => 0)
    case atStart => exact ⟨rfl, rfl⟩
    case round =>
      obtain ⟨rfl, rfl⟩ := hrel
      go_wp2
      go_ret
      exact ⟨congrArg (fun z => Ending.returned (.int .i64 z)) (unhide HE).symm, n2⟩
end Go.Proofs.YtkdeilhkobcglaaDoor
/-
  THE WIDTH OF A FLAT PLAN's NODE, as the specification finds it: kinds 6, 10.
-/
namespace Go.Proofs.YtkdeilhkobcglaaDoor
open Go Go.RowKit

set_option maxRecDepth 100000 in
set_option maxHeartbeats 4000000 in
theorem width4_6 (ts : List Tb) (T M Wd L R l r : Int) (Ex : List O2) (b4 b5 gt capt : Nat) (w : World) (hl0 : 0 ≤ l) (hl1 : l ≤ 200) (hr0 : 0 ≤ r) (hr1 : r ≤ 200) (hb4 : b4 < w.heap.size) (hx : OpsAt w b4 0 Ex) (l1 : Ex.length ≤ 1048576) :
    Calls Tryd.prog 66 #[.agg #[.int .i64 6, .int .i64 T, .int .i64 M, .int .i64 Wd, .slice (some ⟨b4, 0, none⟩) Ex.length Ex.length, .slice (some ⟨b5, 0, none⟩) 0 0, .int .i64 L, .int .i64 R], .agg #[.slice (some ⟨gt, 0, none⟩) ts.length capt], .int .i64 l, .int .i64 r] w fun e w' => e = .returned (.int .i64 (nodF ts ⟨6, T, M, Wd, Ex, [], L, R⟩ l r)) ∧ Below w.heap.size w w' := by
  have hbnd : 0 ≤ l ∧ l ≤ 200 ∧ 0 ≤ r ∧ r ≤ 200 := ⟨hl0, hl1, hr0, hr1⟩
  clear hbnd
  have HMat := hide (fun W => l4Matches_calls 6 W)
  rw [show decide (matK 6) = true by decide] at HMat
  have HUse := hide (fun W => l4UsesEx_calls 6 T M Wd L R (.slice (some ⟨b4, 0, none⟩) Ex.length Ex.length) (.slice (some ⟨b5, 0, none⟩) 0 0) W)
  rw [show decide (exK 6 M) = true from decide_eq_true (by unfold exK; omega)] at HUse
  have HEx := hide (fun W (hb : Below w.heap.size w W) => sExOk_calls Ex b4 0 Ex.length r W (Nat.lt_of_lt_of_le hb4 hb.size) (hx.of hb4 hb) l1)
  have HYes := hide (fun h => nodF_yes (ts := ts) (p := ⟨6, T, M, Wd, Ex, [], L, R⟩) (l := l) (r := r) h)
  have HNo := hide (fun h => nodF_no (ts := ts) (p := ⟨6, T, M, Wd, Ex, [], L, R⟩) (l := l) (r := r) h)
  clear hx hb4
  generalize nodF ts ⟨6, T, M, Wd, Ex, [], L, R⟩ l r = E at *
  have HS : Hid (SidP ⟨6, T, M, Wd, Ex, [], L, R⟩ l r ↔ (0 ≤ Wd ∧ Wd ≤ l ∧ Wd ≤ r) ∧ exOk r Ex = true) := by
    show _ ↔ _
    simp [SidP, matK, exK]
  by_cases hw1 : Wd < 0
  · have HE := hide (show E = -1 by exact unhide HNo (fun h => by have := (HS.out.1 h).1; omega))
    clear HYes HNo HS
    go_enter Tryd.func66, Tryd.ntmps66
    go_wp2_with fail
    refine (unhide HMat _).mono ?_; rintro e w1 ⟨rfl, rfl⟩
    go_wp2
    go_ret
    exact ⟨congrArg (fun z => Ending.returned (.int .i64 z)) (unhide HE).symm, bA (bA (Below.refl _ _) _) _⟩
  by_cases hw2 : l < Wd
  · have HE := hide (show E = -1 by exact unhide HNo (fun h => by have := (HS.out.1 h).1; omega))
    clear HYes HNo HS
    go_enter Tryd.func66, Tryd.ntmps66
    go_wp2_with fail
    refine (unhide HMat _).mono ?_; rintro e w1 ⟨rfl, rfl⟩
    go_wp2
    go_ret
    exact ⟨congrArg (fun z => Ending.returned (.int .i64 z)) (unhide HE).symm, bA (bA (Below.refl _ _) _) _⟩
  by_cases hw3 : r < Wd
  · have HE := hide (show E = -1 by exact unhide HNo (fun h => by have := (HS.out.1 h).1; omega))
    clear HYes HNo HS
    go_enter Tryd.func66, Tryd.ntmps66
    go_wp2_with fail
    refine (unhide HMat _).mono ?_; rintro e w1 ⟨rfl, rfl⟩
    go_wp2
    go_ret
    exact ⟨congrArg (fun z => Ending.returned (.int .i64 z)) (unhide HE).symm, bA (bA (Below.refl _ _) _) _⟩
  cases hX : exOk r Ex
  · rw [hX] at HEx
    have HE := hide (show E = -1 by exact unhide HNo (fun h => by have := (HS.out.1 h).2; rw [hX] at this; cases this))
    clear HYes HNo HS
    go_enter Tryd.func66, Tryd.ntmps66
    go_wp2_with fail
    refine (unhide HMat _).mono ?_; rintro e w1 ⟨rfl, rfl⟩
    go_wp2_with fail
    refine (unhide HUse _).mono ?_; rintro e w2 ⟨rfl, hb⟩
    have n2 := bT (bA (bA (Below.refl _ _) _) _ : Below w.heap.size w _) hb
    have F := NB.of (s := w.heap.size) (gt := gt) (nt := ts.length) (capt := capt) (K := 6) (T := T) (M := M) (Wd := Wd) (L := L) (R := R) (u4 := .slice (some ⟨b4, 0, none⟩) Ex.length Ex.length) (u5 := .slice (some ⟨b5, 0, none⟩) 0 0) ⟨by simp [go_sem], by simp [go_sem], by simp [go_sem], by simp [go_sem], by simp [go_sem], by simp [go_sem], by simp [go_sem], by simp [go_sem], by simp [go_sem], (by simp <;> omega), (by simp <;> omega)⟩ hb
    clear hb
    obtain ⟨f0, f1, f2, f3, f4, f5, f6, f7, fd, fs0, fs⟩ := id F
    go_wp2_with fail
    refine (unhide HEx _ n2).mono ?_; rintro e w3 ⟨rfl, hb⟩
    have n3 := bT n2 hb
    go_wp2
    go_ret
    exact ⟨congrArg (fun z => Ending.returned (.int .i64 z)) (unhide HE).symm, n3⟩
  · rw [hX] at HEx
    have HE := hide (show E = l + 1 by rw [unhide HYes (HS.out.2 ⟨⟨by omega, by omega, by omega⟩, hX⟩)]; simp [stepF])
    clear HYes HNo HS
    go_enter Tryd.func66, Tryd.ntmps66
    go_wp2_with fail
    refine (unhide HMat _).mono ?_; rintro e w1 ⟨rfl, rfl⟩
    go_wp2_with fail
    refine (unhide HUse _).mono ?_; rintro e w2 ⟨rfl, hb⟩
    have n2 := bT (bA (bA (Below.refl _ _) _) _ : Below w.heap.size w _) hb
    have F := NB.of (s := w.heap.size) (gt := gt) (nt := ts.length) (capt := capt) (K := 6) (T := T) (M := M) (Wd := Wd) (L := L) (R := R) (u4 := .slice (some ⟨b4, 0, none⟩) Ex.length Ex.length) (u5 := .slice (some ⟨b5, 0, none⟩) 0 0) ⟨by simp [go_sem], by simp [go_sem], by simp [go_sem], by simp [go_sem], by simp [go_sem], by simp [go_sem], by simp [go_sem], by simp [go_sem], by simp [go_sem], (by simp <;> omega), (by simp <;> omega)⟩ hb
    clear hb
    obtain ⟨f0, f1, f2, f3, f4, f5, f6, f7, fd, fs0, fs⟩ := id F
    go_wp2_with fail
    refine (unhide HEx _ n2).mono ?_; rintro e w3 ⟨rfl, hb⟩
    have n3 := bT n2 hb
    have F3 := F.of hb
    clear hb f0 f1 f2 f3 f4 f5 f6 f7 fd fs0 fs F n2
    obtain ⟨f0, f1, f2, f3, f4, f5, f6, f7, fd, fs0, fs⟩ := id F3
    go_wp2
    go_loopw [10] (fun c wr => c = .int .i64 0 ∧ wr = w3) (fun _ _ => 0)
    case atStart => exact ⟨rfl, rfl⟩
    case round =>
      obtain ⟨rfl, rfl⟩ := hrel
      go_wp2
      go_ret
      exact ⟨congrArg (fun z => Ending.returned (.int .i64 z)) (unhide HE).symm, n3⟩

set_option maxRecDepth 100000 in
set_option maxHeartbeats 4000000 in
theorem width4_10 (ts : List Tb) (T M Wd L R l r : Int) (Ex : List O2) (b4 b5 gt capt : Nat) (w : World) (hl0 : 0 ≤ l) (hl1 : l ≤ 200) (hr0 : 0 ≤ r) (hr1 : r ≤ 200) (hb4 : b4 < w.heap.size) (hx : OpsAt w b4 0 Ex) (l1 : Ex.length ≤ 1048576) :
    Calls Tryd.prog 66 #[.agg #[.int .i64 10, .int .i64 T, .int .i64 M, .int .i64 Wd, .slice (some ⟨b4, 0, none⟩) Ex.length Ex.length, .slice (some ⟨b5, 0, none⟩) 0 0, .int .i64 L, .int .i64 R], .agg #[.slice (some ⟨gt, 0, none⟩) ts.length capt], .int .i64 l, .int .i64 r] w fun e w' => e = .returned (.int .i64 (nodF ts ⟨10, T, M, Wd, Ex, [], L, R⟩ l r)) ∧ Below w.heap.size w w' := by
  have hbnd : 0 ≤ l ∧ l ≤ 200 ∧ 0 ≤ r ∧ r ≤ 200 := ⟨hl0, hl1, hr0, hr1⟩
  clear hbnd
  have HMat := hide (fun W => l4Matches_calls 10 W)
  rw [show decide (matK 10) = true by decide] at HMat
  have HUse := hide (fun W => l4UsesEx_calls 10 T M Wd L R (.slice (some ⟨b4, 0, none⟩) Ex.length Ex.length) (.slice (some ⟨b5, 0, none⟩) 0 0) W)
  rw [show decide (exK 10 M) = true from decide_eq_true (by unfold exK; omega)] at HUse
  have HEx := hide (fun W (hb : Below w.heap.size w W) => sExOk_calls Ex b4 0 Ex.length r W (Nat.lt_of_lt_of_le hb4 hb.size) (hx.of hb4 hb) l1)
  have HYes := hide (fun h => nodF_yes (ts := ts) (p := ⟨10, T, M, Wd, Ex, [], L, R⟩) (l := l) (r := r) h)
  have HNo := hide (fun h => nodF_no (ts := ts) (p := ⟨10, T, M, Wd, Ex, [], L, R⟩) (l := l) (r := r) h)
  clear hx hb4
  generalize nodF ts ⟨10, T, M, Wd, Ex, [], L, R⟩ l r = E at *
  have HS : Hid (SidP ⟨10, T, M, Wd, Ex, [], L, R⟩ l r ↔ (0 ≤ Wd ∧ Wd ≤ l ∧ Wd ≤ r) ∧ exOk r Ex = true) := by
    show _ ↔ _
    simp [SidP, matK, exK]
  by_cases hw1 : Wd < 0
  · have HE := hide (show E = -1 by exact unhide HNo (fun h => by have := (HS.out.1 h).1; omega))
    clear HYes HNo HS
    go_enter Tryd.func66, Tryd.ntmps66
    go_wp2_with fail
    refine (unhide HMat _).mono ?_; rintro e w1 ⟨rfl, rfl⟩
    go_wp2
    go_ret
    exact ⟨congrArg (fun z => Ending.returned (.int .i64 z)) (unhide HE).symm, bA (bA (Below.refl _ _) _) _⟩
  by_cases hw2 : l < Wd
  · have HE := hide (show E = -1 by exact unhide HNo (fun h => by have := (HS.out.1 h).1; omega))
    clear HYes HNo HS
    go_enter Tryd.func66, Tryd.ntmps66
    go_wp2_with fail
    refine (unhide HMat _).mono ?_; rintro e w1 ⟨rfl, rfl⟩
    go_wp2
    go_ret
    exact ⟨congrArg (fun z => Ending.returned (.int .i64 z)) (unhide HE).symm, bA (bA (Below.refl _ _) _) _⟩
  by_cases hw3 : r < Wd
  · have HE := hide (show E = -1 by exact unhide HNo (fun h => by have := (HS.out.1 h).1; omega))
    clear HYes HNo HS
    go_enter Tryd.func66, Tryd.ntmps66
    go_wp2_with fail
    refine (unhide HMat _).mono ?_; rintro e w1 ⟨rfl, rfl⟩
    go_wp2
    go_ret
    exact ⟨congrArg (fun z => Ending.returned (.int .i64 z)) (unhide HE).symm, bA (bA (Below.refl _ _) _) _⟩
  cases hX : exOk r Ex
  · rw [hX] at HEx
    have HE := hide (show E = -1 by exact unhide HNo (fun h => by have := (HS.out.1 h).2; rw [hX] at this; cases this))
    clear HYes HNo HS
    go_enter Tryd.func66, Tryd.ntmps66
    go_wp2_with fail
    refine (unhide HMat _).mono ?_; rintro e w1 ⟨rfl, rfl⟩
    go_wp2_with fail
    refine (unhide HUse _).mono ?_; rintro e w2 ⟨rfl, hb⟩
    have n2 := bT (bA (bA (Below.refl _ _) _) _ : Below w.heap.size w _) hb
    have F := NB.of (s := w.heap.size) (gt := gt) (nt := ts.length) (capt := capt) (K := 10) (T := T) (M := M) (Wd := Wd) (L := L) (R := R) (u4 := .slice (some ⟨b4, 0, none⟩) Ex.length Ex.length) (u5 := .slice (some ⟨b5, 0, none⟩) 0 0) ⟨by simp [go_sem], by simp [go_sem], by simp [go_sem], by simp [go_sem], by simp [go_sem], by simp [go_sem], by simp [go_sem], by simp [go_sem], by simp [go_sem], (by simp <;> omega), (by simp <;> omega)⟩ hb
    clear hb
    obtain ⟨f0, f1, f2, f3, f4, f5, f6, f7, fd, fs0, fs⟩ := id F
    go_wp2_with fail
    refine (unhide HEx _ n2).mono ?_; rintro e w3 ⟨rfl, hb⟩
    have n3 := bT n2 hb
    go_wp2
    go_ret
    exact ⟨congrArg (fun z => Ending.returned (.int .i64 z)) (unhide HE).symm, n3⟩
  · rw [hX] at HEx
    have HE := hide (show E = l by rw [unhide HYes (HS.out.2 ⟨⟨by omega, by omega, by omega⟩, hX⟩)]; simp [stepF])
    clear HYes HNo HS
    go_enter Tryd.func66, Tryd.ntmps66
    go_wp2_with fail
    refine (unhide HMat _).mono ?_; rintro e w1 ⟨rfl, rfl⟩
    go_wp2_with fail
    refine (unhide HUse _).mono ?_; rintro e w2 ⟨rfl, hb⟩
    have n2 := bT (bA (bA (Below.refl _ _) _) _ : Below w.heap.size w _) hb
    have F := NB.of (s := w.heap.size) (gt := gt) (nt := ts.length) (capt := capt) (K := 10) (T := T) (M := M) (Wd := Wd) (L := L) (R := R) (u4 := .slice (some ⟨b4, 0, none⟩) Ex.length Ex.length) (u5 := .slice (some ⟨b5, 0, none⟩) 0 0) ⟨by simp [go_sem], by simp [go_sem], by simp [go_sem], by simp [go_sem], by simp [go_sem], by simp [go_sem], by simp [go_sem], by simp [go_sem], by simp [go_sem], (by simp <;> omega), (by simp <;> omega)⟩ hb
    clear hb
    obtain ⟨f0, f1, f2, f3, f4, f5, f6, f7, fd, fs0, fs⟩ := id F
    go_wp2_with fail
    refine (unhide HEx _ n2).mono ?_; rintro e w3 ⟨rfl, hb⟩
    have n3 := bT n2 hb
    have F3 := F.of hb
    clear hb f0 f1 f2 f3 f4 f5 f6 f7 fd fs0 fs F n2
    obtain ⟨f0, f1, f2, f3, f4, f5, f6, f7, fd, fs0, fs⟩ := id F3
    go_wp2
    go_loopw [10] (fun c wr => c = .int .i64 0 ∧ wr = w3) (fun _ _ => 0)
    case atStart => exact ⟨rfl, rfl⟩
    case round =>
      obtain ⟨rfl, rfl⟩ := hrel
      go_wp2
      go_ret
      exact ⟨congrArg (fun z => Ending.returned (.int .i64 z)) (unhide HE).symm, n3⟩
end Go.Proofs.YtkdeilhkobcglaaDoor
/-
  THE WIDTH OF A FLAT PLAN's NODE, as the specification finds it: kinds 7, 11.
-/
namespace Go.Proofs.YtkdeilhkobcglaaDoor
open Go Go.RowKit

set_option maxRecDepth 100000 in
set_option maxHeartbeats 4000000 in
theorem width4_7 (ts : List Tb) (T M Wd L R l r : Int) (Ex : List O2) (b4 b5 gt capt : Nat) (w : World) (hl0 : 0 ≤ l) (hl1 : l ≤ 200) (hr0 : 0 ≤ r) (hr1 : r ≤ 200) (hb4 : b4 < w.heap.size) (hx : OpsAt w b4 0 Ex) (l1 : Ex.length ≤ 1048576) :
    Calls Tryd.prog 66 #[.agg #[.int .i64 7, .int .i64 T, .int .i64 M, .int .i64 Wd, .slice (some ⟨b4, 0, none⟩) Ex.length Ex.length, .slice (some ⟨b5, 0, none⟩) 0 0, .int .i64 L, .int .i64 R], .agg #[.slice (some ⟨gt, 0, none⟩) ts.length capt], .int .i64 l, .int .i64 r] w fun e w' => e = .returned (.int .i64 (nodF ts ⟨7, T, M, Wd, Ex, [], L, R⟩ l r)) ∧ Below w.heap.size w w' := by
  have hbnd : 0 ≤ l ∧ l ≤ 200 ∧ 0 ≤ r ∧ r ≤ 200 := ⟨hl0, hl1, hr0, hr1⟩
  clear hbnd
  have HMat := hide (fun W => l4Matches_calls 7 W)
  rw [show decide (matK 7) = true by decide] at HMat
  have HUse := hide (fun W => l4UsesEx_calls 7 T M Wd L R (.slice (some ⟨b4, 0, none⟩) Ex.length Ex.length) (.slice (some ⟨b5, 0, none⟩) 0 0) W)
  have HEx := hide (fun W (hb : Below w.heap.size w W) => sExOk_calls Ex b4 0 Ex.length r W (Nat.lt_of_lt_of_le hb4 hb.size) (hx.of hb4 hb) l1)
  have HYes := hide (fun h => nodF_yes (ts := ts) (p := ⟨7, T, M, Wd, Ex, [], L, R⟩) (l := l) (r := r) h)
  have HNo := hide (fun h => nodF_no (ts := ts) (p := ⟨7, T, M, Wd, Ex, [], L, R⟩) (l := l) (r := r) h)
  clear hx hb4
  generalize nodF ts ⟨7, T, M, Wd, Ex, [], L, R⟩ l r = E at *
  by_cases hM : M = 1
  · subst hM
    rw [show decide (exK 7 1) = false by decide] at HUse
    have HS : Hid (SidP ⟨7, T, 1, Wd, Ex, [], L, R⟩ l r ↔ (0 ≤ Wd ∧ Wd ≤ l ∧ Wd ≤ r)) := by
      show _ ↔ _
      simp [SidP, matK, exK]
    by_cases hw1 : Wd < 0
    · have HE := hide (show E = -1 by exact unhide HNo (fun h => by have := (HS.out.1 h); omega))
      clear HYes HNo HS
      go_enter Tryd.func66, Tryd.ntmps66
      go_wp2_with fail
      refine (unhide HMat _).mono ?_; rintro e w1 ⟨rfl, rfl⟩
      go_wp2
      go_ret
      exact ⟨congrArg (fun z => Ending.returned (.int .i64 z)) (unhide HE).symm, bA (bA (Below.refl _ _) _) _⟩
    by_cases hw2 : l < Wd
    · have HE := hide (show E = -1 by exact unhide HNo (fun h => by have := (HS.out.1 h); omega))
      clear HYes HNo HS
      go_enter Tryd.func66, Tryd.ntmps66
      go_wp2_with fail
      refine (unhide HMat _).mono ?_; rintro e w1 ⟨rfl, rfl⟩
      go_wp2
      go_ret
      exact ⟨congrArg (fun z => Ending.returned (.int .i64 z)) (unhide HE).symm, bA (bA (Below.refl _ _) _) _⟩
    by_cases hw3 : r < Wd
    · have HE := hide (show E = -1 by exact unhide HNo (fun h => by have := (HS.out.1 h); omega))
      clear HYes HNo HS
      go_enter Tryd.func66, Tryd.ntmps66
      go_wp2_with fail
      refine (unhide HMat _).mono ?_; rintro e w1 ⟨rfl, rfl⟩
      go_wp2
      go_ret
      exact ⟨congrArg (fun z => Ending.returned (.int .i64 z)) (unhide HE).symm, bA (bA (Below.refl _ _) _) _⟩
    have HE := hide (show E = l + 1 by rw [unhide HYes (HS.out.2 ⟨by omega, by omega, by omega⟩)]; simp [stepF])
    clear HYes HNo HS
    go_enter Tryd.func66, Tryd.ntmps66
    go_wp2_with fail
    refine (unhide HMat _).mono ?_; rintro e w1 ⟨rfl, rfl⟩
    go_wp2_with fail
    refine (unhide HUse _).mono ?_; rintro e w2 ⟨rfl, hb⟩
    have n2 := bT (bA (bA (Below.refl _ _) _) _ : Below w.heap.size w _) hb
    have F := NB.of (s := w.heap.size) (gt := gt) (nt := ts.length) (capt := capt) (K := 7) (T := T) (M := 1) (Wd := Wd) (L := L) (R := R) (u4 := .slice (some ⟨b4, 0, none⟩) Ex.length Ex.length) (u5 := .slice (some ⟨b5, 0, none⟩) 0 0) ⟨by simp [go_sem], by simp [go_sem], by simp [go_sem], by simp [go_sem], by simp [go_sem], by simp [go_sem], by simp [go_sem], by simp [go_sem], by simp [go_sem], (by simp <;> omega), (by simp <;> omega)⟩ hb
    clear hb
    obtain ⟨f0, f1, f2, f3, f4, f5, f6, f7, fd, fs0, fs⟩ := id F
    go_wp2
    go_loopw [10] (fun c wr => c = .int .i64 0 ∧ wr = w2) (fun _ _ => 0)
    case atStart => exact ⟨rfl, rfl⟩
    case round =>
      obtain ⟨rfl, rfl⟩ := hrel
      go_wp2
      go_ret
      exact ⟨congrArg (fun z => Ending.returned (.int .i64 z)) (unhide HE).symm, n2⟩
  · rw [show decide (exK 7 M) = true from decide_eq_true (by unfold exK; omega)] at HUse
    have HS : Hid (SidP ⟨7, T, M, Wd, Ex, [], L, R⟩ l r ↔ (0 ≤ Wd ∧ Wd ≤ l ∧ Wd ≤ r) ∧ exOk r Ex = true) := by
      show _ ↔ _
      simp [SidP, matK, exK, hM]
    by_cases hw1 : Wd < 0
    · have HE := hide (show E = -1 by exact unhide HNo (fun h => by have := (HS.out.1 h).1; omega))
      clear HYes HNo HS
      go_enter Tryd.func66, Tryd.ntmps66
      go_wp2_with fail
      refine (unhide HMat _).mono ?_; rintro e w1 ⟨rfl, rfl⟩
      go_wp2
      go_ret
      exact ⟨congrArg (fun z => Ending.returned (.int .i64 z)) (unhide HE).symm, bA (bA (Below.refl _ _) _) _⟩
    by_cases hw2 : l < Wd
    · have HE := hide (show E = -1 by exact unhide HNo (fun h => by have := (HS.out.1 h).1; omega))
      clear HYes HNo HS
      go_enter Tryd.func66, Tryd.ntmps66
      go_wp2_with fail
      refine (unhide HMat _).mono ?_; rintro e w1 ⟨rfl, rfl⟩
      go_wp2
      go_ret
      exact ⟨congrArg (fun z => Ending.returned (.int .i64 z)) (unhide HE).symm, bA (bA (Below.refl _ _) _) _⟩
    by_cases hw3 : r < Wd
    · have HE := hide (show E = -1 by exact unhide HNo (fun h => by have := (HS.out.1 h).1; omega))
      clear HYes HNo HS
      go_enter Tryd.func66, Tryd.ntmps66
      go_wp2_with fail
      refine (unhide HMat _).mono ?_; rintro e w1 ⟨rfl, rfl⟩
      go_wp2
      go_ret
      exact ⟨congrArg (fun z => Ending.returned (.int .i64 z)) (unhide HE).symm, bA (bA (Below.refl _ _) _) _⟩
    cases hX : exOk r Ex
    · rw [hX] at HEx
      have HE := hide (show E = -1 by exact unhide HNo (fun h => by have := (HS.out.1 h).2; rw [hX] at this; cases this))
      clear HYes HNo HS
      go_enter Tryd.func66, Tryd.ntmps66
      go_wp2_with fail
      refine (unhide HMat _).mono ?_; rintro e w1 ⟨rfl, rfl⟩
      go_wp2_with fail
      refine (unhide HUse _).mono ?_; rintro e w2 ⟨rfl, hb⟩
      have n2 := bT (bA (bA (Below.refl _ _) _) _ : Below w.heap.size w _) hb
      have F := NB.of (s := w.heap.size) (gt := gt) (nt := ts.length) (capt := capt) (K := 7) (T := T) (M := M) (Wd := Wd) (L := L) (R := R) (u4 := .slice (some ⟨b4, 0, none⟩) Ex.length Ex.length) (u5 := .slice (some ⟨b5, 0, none⟩) 0 0) ⟨by simp [go_sem], by simp [go_sem], by simp [go_sem], by simp [go_sem], by simp [go_sem], by simp [go_sem], by simp [go_sem], by simp [go_sem], by simp [go_sem], (by simp <;> omega), (by simp <;> omega)⟩ hb
      clear hb
      obtain ⟨f0, f1, f2, f3, f4, f5, f6, f7, fd, fs0, fs⟩ := id F
      go_wp2_with fail
      refine (unhide HEx _ n2).mono ?_; rintro e w3 ⟨rfl, hb⟩
      have n3 := bT n2 hb
      go_wp2
      go_ret
      exact ⟨congrArg (fun z => Ending.returned (.int .i64 z)) (unhide HE).symm, n3⟩
    · rw [hX] at HEx
      have HE := hide (show E = l + 1 by rw [unhide HYes (HS.out.2 ⟨⟨by omega, by omega, by omega⟩, hX⟩)]; simp [stepF])
      clear HYes HNo HS
      go_enter Tryd.func66, Tryd.ntmps66
      go_wp2_with fail
      refine (unhide HMat _).mono ?_; rintro e w1 ⟨rfl, rfl⟩
      go_wp2_with fail
      refine (unhide HUse _).mono ?_; rintro e w2 ⟨rfl, hb⟩
      have n2 := bT (bA (bA (Below.refl _ _) _) _ : Below w.heap.size w _) hb
      have F := NB.of (s := w.heap.size) (gt := gt) (nt := ts.length) (capt := capt) (K := 7) (T := T) (M := M) (Wd := Wd) (L := L) (R := R) (u4 := .slice (some ⟨b4, 0, none⟩) Ex.length Ex.length) (u5 := .slice (some ⟨b5, 0, none⟩) 0 0) ⟨by simp [go_sem], by simp [go_sem], by simp [go_sem], by simp [go_sem], by simp [go_sem], by simp [go_sem], by simp [go_sem], by simp [go_sem], by simp [go_sem], (by simp <;> omega), (by simp <;> omega)⟩ hb
      clear hb
      obtain ⟨f0, f1, f2, f3, f4, f5, f6, f7, fd, fs0, fs⟩ := id F
      go_wp2_with fail
      refine (unhide HEx _ n2).mono ?_; rintro e w3 ⟨rfl, hb⟩
      have n3 := bT n2 hb
      have F3 := F.of hb
      clear hb f0 f1 f2 f3 f4 f5 f6 f7 fd fs0 fs F n2
      obtain ⟨f0, f1, f2, f3, f4, f5, f6, f7, fd, fs0, fs⟩ := id F3
      go_wp2
      go_loopw [10] (fun c wr => c = .int .i64 0 ∧ wr = w3) (fun _ _ => 0)
      case atStart => exact ⟨rfl, rfl⟩
      case round =>
        obtain ⟨rfl, rfl⟩ := hrel
        go_wp2
        go_ret
        exact ⟨congrArg (fun z => Ending.returned (.int .i64 z)) (unhide HE).symm, n3⟩

set_option maxRecDepth 100000 in
set_option maxHeartbeats 4000000 in
theorem width4_11 (ts : List Tb) (T M Wd L R l r : Int) (Ex : List O2) (b4 b5 gt capt : Nat) (w : World) (hl0 : 0 ≤ l) (hl1 : l ≤ 200) (hr0 : 0 ≤ r) (hr1 : r ≤ 200) (hb4 : b4 < w.heap.size) (hx : OpsAt w b4 0 Ex) (l1 : Ex.length ≤ 1048576) :
    Calls Tryd.prog 66 #[.agg #[.int .i64 11, .int .i64 T, .int .i64 M, .int .i64 Wd, .slice (some ⟨b4, 0, none⟩) Ex.length Ex.length, .slice (some ⟨b5, 0, none⟩) 0 0, .int .i64 L, .int .i64 R], .agg #[.slice (some ⟨gt, 0, none⟩) ts.length capt], .int .i64 l, .int .i64 r] w fun e w' => e = .returned (.int .i64 (nodF ts ⟨11, T, M, Wd, Ex, [], L, R⟩ l r)) ∧ Below w.heap.size w w' := by
  have hbnd : 0 ≤ l ∧ l ≤ 200 ∧ 0 ≤ r ∧ r ≤ 200 := ⟨hl0, hl1, hr0, hr1⟩
  clear hbnd
  have HMat := hide (fun W => l4Matches_calls 11 W)
  rw [show decide (matK 11) = true by decide] at HMat
  have HUse := hide (fun W => l4UsesEx_calls 11 T M Wd L R (.slice (some ⟨b4, 0, none⟩) Ex.length Ex.length) (.slice (some ⟨b5, 0, none⟩) 0 0) W)
  rw [show decide (exK 11 M) = true from decide_eq_true (by unfold exK; omega)] at HUse
  have HEx := hide (fun W (hb : Below w.heap.size w W) => sExOk_calls Ex b4 0 Ex.length r W (Nat.lt_of_lt_of_le hb4 hb.size) (hx.of hb4 hb) l1)
  have HYes := hide (fun h => nodF_yes (ts := ts) (p := ⟨11, T, M, Wd, Ex, [], L, R⟩) (l := l) (r := r) h)
  have HNo := hide (fun h => nodF_no (ts := ts) (p := ⟨11, T, M, Wd, Ex, [], L, R⟩) (l := l) (r := r) h)
  clear hx hb4
  generalize nodF ts ⟨11, T, M, Wd, Ex, [], L, R⟩ l r = E at *
  have HS : Hid (SidP ⟨11, T, M, Wd, Ex, [], L, R⟩ l r ↔ (0 ≤ Wd ∧ Wd ≤ l ∧ Wd ≤ r) ∧ exOk r Ex = true) := by
    show _ ↔ _
    simp [SidP, matK, exK]
  by_cases hw1 : Wd < 0
  · have HE := hide (show E = -1 by exact unhide HNo (fun h => by have := (HS.out.1 h).1; omega))
    clear HYes HNo HS
    go_enter Tryd.func66, Tryd.ntmps66
    go_wp2_with fail
    refine (unhide HMat _).mono ?_; rintro e w1 ⟨rfl, rfl⟩
    go_wp2
    go_ret
    exact ⟨congrArg (fun z => Ending.returned (.int .i64 z)) (unhide HE).symm, bA (bA (Below.refl _ _) _) _⟩
  by_cases hw2 : l < Wd
  · have HE := hide (show E = -1 by exact unhide HNo (fun h => by have := (HS.out.1 h).1; omega))
    clear HYes HNo HS
    go_enter Tryd.func66, Tryd.ntmps66
    go_wp2_with fail
    refine (unhide HMat _).mono ?_; rintro e w1 ⟨rfl, rfl⟩
    go_wp2
    go_ret
    exact ⟨congrArg (fun z => Ending.returned (.int .i64 z)) (unhide HE).symm, bA (bA (Below.refl _ _) _) _⟩
  by_cases hw3 : r < Wd
  · have HE := hide (show E = -1 by exact unhide HNo (fun h => by have := (HS.out.1 h).1; omega))
    clear HYes HNo HS
    go_enter Tryd.func66, Tryd.ntmps66
    go_wp2_with fail
    refine (unhide HMat _).mono ?_; rintro e w1 ⟨rfl, rfl⟩
    go_wp2
    go_ret
    exact ⟨congrArg (fun z => Ending.returned (.int .i64 z)) (unhide HE).symm, bA (bA (Below.refl _ _) _) _⟩
  cases hX : exOk r Ex
  · rw [hX] at HEx
    have HE := hide (show E = -1 by exact unhide HNo (fun h => by have := (HS.out.1 h).2; rw [hX] at this; cases this))
    clear HYes HNo HS
    go_enter Tryd.func66, Tryd.ntmps66
    go_wp2_with fail
    refine (unhide HMat _).mono ?_; rintro e w1 ⟨rfl, rfl⟩
    go_wp2_with fail
    refine (unhide HUse _).mono ?_; rintro e w2 ⟨rfl, hb⟩
    have n2 := bT (bA (bA (Below.refl _ _) _) _ : Below w.heap.size w _) hb
    have F := NB.of (s := w.heap.size) (gt := gt) (nt := ts.length) (capt := capt) (K := 11) (T := T) (M := M) (Wd := Wd) (L := L) (R := R) (u4 := .slice (some ⟨b4, 0, none⟩) Ex.length Ex.length) (u5 := .slice (some ⟨b5, 0, none⟩) 0 0) ⟨by simp [go_sem], by simp [go_sem], by simp [go_sem], by simp [go_sem], by simp [go_sem], by simp [go_sem], by simp [go_sem], by simp [go_sem], by simp [go_sem], (by simp <;> omega), (by simp <;> omega)⟩ hb
    clear hb
    obtain ⟨f0, f1, f2, f3, f4, f5, f6, f7, fd, fs0, fs⟩ := id F
    go_wp2_with fail
    refine (unhide HEx _ n2).mono ?_; rintro e w3 ⟨rfl, hb⟩
    have n3 := bT n2 hb
    go_wp2
    go_ret
    exact ⟨congrArg (fun z => Ending.returned (.int .i64 z)) (unhide HE).symm, n3⟩
  · rw [hX] at HEx
    have HE := hide (show E = l by rw [unhide HYes (HS.out.2 ⟨⟨by omega, by omega, by omega⟩, hX⟩)]; simp [stepF])
    clear HYes HNo HS
    go_enter Tryd.func66, Tryd.ntmps66
    go_wp2_with fail
    refine (unhide HMat _).mono ?_; rintro e w1 ⟨rfl, rfl⟩
    go_wp2_with fail
    refine (unhide HUse _).mono ?_; rintro e w2 ⟨rfl, hb⟩
    have n2 := bT (bA (bA (Below.refl _ _) _) _ : Below w.heap.size w _) hb
    have F := NB.of (s := w.heap.size) (gt := gt) (nt := ts.length) (capt := capt) (K := 11) (T := T) (M := M) (Wd := Wd) (L := L) (R := R) (u4 := .slice (some ⟨b4, 0, none⟩) Ex.length Ex.length) (u5 := .slice (some ⟨b5, 0, none⟩) 0 0) ⟨by simp [go_sem], by simp [go_sem], by simp [go_sem], by simp [go_sem], by simp [go_sem], by simp [go_sem], by simp [go_sem], by simp [go_sem], by simp [go_sem], (by simp <;> omega), (by simp <;> omega)⟩ hb
    clear hb
    obtain ⟨f0, f1, f2, f3, f4, f5, f6, f7, fd, fs0, fs⟩ := id F
    go_wp2_with fail
    refine (unhide HEx _ n2).mono ?_; rintro e w3 ⟨rfl, hb⟩
    have n3 := bT n2 hb
    have F3 := F.of hb
    clear hb f0 f1 f2 f3 f4 f5 f6 f7 fd fs0 fs F n2
    obtain ⟨f0, f1, f2, f3, f4, f5, f6, f7, fd, fs0, fs⟩ := id F3
    go_wp2
    go_loopw [10] (fun c wr => c = .int .i64 0 ∧ wr = w3) (fun _ _ => 0)
    case atStart => exact ⟨rfl, rfl⟩
    case round =>
      obtain ⟨rfl, rfl⟩ := hrel
      go_wp2
      go_ret
      exact ⟨congrArg (fun z => Ending.returned (.int .i64 z)) (unhide HE).symm, n3⟩
end Go.Proofs.YtkdeilhkobcglaaDoor
/-
  THE WIDTH OF A FLAT PLAN's NODE, as the specification finds it: all kinds.
-/
namespace Go.Proofs.YtkdeilhkobcglaaDoor
open Go Go.RowKit

set_option maxRecDepth 100000 in
set_option maxHeartbeats 4000000 in
theorem width4_4 (ts : List Tb) (T M Wd L R l r : Int) (Ex : List O2) (Exs : List (List O2)) (b4 b5 gt capt : Nat) (w : World) (hb5 : b5 < w.heap.size) (hxs : OpssAt w b5 Exs) (l2 : Exs.length ≤ 1048576) (l3 : ∀ xs ∈ Exs, xs.length ≤ 1048576) :
    Calls Tryd.prog 66 #[.agg #[.int .i64 4, .int .i64 T, .int .i64 M, .int .i64 Wd, .slice (some ⟨b4, 0, none⟩) Ex.length Ex.length, .slice (some ⟨b5, 0, none⟩) Exs.length Exs.length, .int .i64 L, .int .i64 R], .agg #[.slice (some ⟨gt, 0, none⟩) ts.length capt], .int .i64 l, .int .i64 r] w fun e w' => e = .returned (.int .i64 (nodF ts ⟨4, T, M, Wd, Ex, Exs, L, R⟩ l r)) ∧ Below w.heap.size w w' := by
  have HMat := hide (fun W => l4Matches_calls 4 W)
  rw [show decide (matK 4) = false by decide] at HMat
  have HUse := hide (fun W => l4UsesEx_calls 4 T M Wd L R (.slice (some ⟨b4, 0, none⟩) Ex.length Ex.length) (.slice (some ⟨b5, 0, none⟩) Exs.length Exs.length) W)
  rw [show decide (exK 4 M) = false from decide_eq_false (by unfold exK; omega)] at HUse
  have HS : Hid (SidP ⟨4, T, M, Wd, Ex, Exs, L, R⟩ l r ↔ ∀ xs ∈ Exs, exOk l xs = true) := by
    show _ ↔ _
    simp [SidP, matK, exK]
  have HYes := hide (fun h => nodF_yes (ts := ts) (p := ⟨4, T, M, Wd, Ex, Exs, L, R⟩) (l := l) (r := r) h)
  have HNo := hide (fun h => nodF_no (ts := ts) (p := ⟨4, T, M, Wd, Ex, Exs, L, R⟩) (l := l) (r := r) h)
  have HXs := hide (fun W (hb : Below w.heap.size w W) => hxs.of hb5 hb)
  have HL3 := hide l3
  clear hxs l3
  generalize nodF ts ⟨4, T, M, Wd, Ex, Exs, L, R⟩ l r = E at *
  go_enter Tryd.func66, Tryd.ntmps66
  go_wp2_with fail
  refine (unhide HMat _).mono ?_; rintro e w1 ⟨rfl, hw⟩; obtain rfl := hw.symm
  go_wp2_with fail
  refine (unhide HUse _).mono ?_; rintro e w2 ⟨rfl, hb⟩
  have n2 := bT (bA (bA (Below.refl _ _) _) _ : Below w.heap.size w _) hb
  have F := NB.of (s := w.heap.size) (gt := gt) (nt := ts.length) (capt := capt) (K := 4) (T := T) (M := M) (Wd := Wd) (L := L) (R := R) (u4 := .slice (some ⟨b4, 0, none⟩) Ex.length Ex.length) (u5 := .slice (some ⟨b5, 0, none⟩) Exs.length Exs.length) ⟨by simp [go_sem], by simp [go_sem], by simp [go_sem], by simp [go_sem], by simp [go_sem], by simp [go_sem], by simp [go_sem], by simp [go_sem], by simp [go_sem], (by simp <;> omega), (by simp <;> omega)⟩ hb
  clear hb
  obtain ⟨f0, f1, f2, f3, f4, f5, f6, f7, fd, fs0, fs⟩ := id F
  go_wp2
  go_loopw [10] (fun c wr => ∃ j : Nat, j ≤ Exs.length ∧ c = .int .i64 j ∧ (∀ xs ∈ Exs.take j, exOk l xs = true) ∧ NB w.heap.size gt ts.length capt 4 T M Wd L R (.slice (some ⟨b4, 0, none⟩) Ex.length Ex.length) (.slice (some ⟨b5, 0, none⟩) Exs.length Exs.length) wr ∧ Below w.heap.size w wr) (fun c _ => Exs.length - (intOf c).toNat)
  case atStart => exact ⟨0, Nat.zero_le _, rfl, fun x hx => by simp at hx, F, n2⟩
  case round =>
    clear f0 f1 f2 f3 f4 f5 f6 f7 fd fs0 fs F n2
    obtain ⟨j, hj, rfl, hjw, F, hb⟩ := hrel
    obtain ⟨f0, f1, f2, f3, f4, f5, f6, f7, fd, fs0, fs⟩ := id F
    have HJ := hide hjw
    clear hjw
    by_cases hjl : j < Exs.length
    · obtain ⟨bx, cx, hbx, hbx2, hox⟩ := unhide HXs wr hb j Exs[j] (List.getElem?_eq_getElem hjl)
      have j2 : (j : Int) < (Exs.length : Int) := by omega
      have hb5w : b5 < wr.heap.size := Nat.lt_of_lt_of_le hb5 hb.size
      have HX := hide (sExOk_calls Exs[j] bx 0 (Exs[j]).length l wr hbx2 hox (unhide HL3 _ (List.getElem_mem hjl)))
      have hnext : exOk l Exs[j] = true → ∀ xs ∈ Exs.take (j + 1), exOk l xs = true := fun h x hx => by
        rw [take_snocN Exs j hjl] at hx
        rcases List.mem_append.1 hx with h' | h'
        · exact unhide HJ x h'
        · simp only [List.mem_singleton] at h'; rw [h']; exact h
      have hno : exOk l Exs[j] = false → E = -1 := fun h => unhide HNo (fun h' => by
        have := HS.out.1 h' _ (List.getElem_mem hjl)
        rw [h] at this
        cases this)
      generalize exOk l Exs[j] = bE at *
      generalize (Exs[j]).length = xl at *
      clear hox hbx hbx2 HXs HL3
      cases bE
      · have HE2 := hide (hno rfl)
        clear hno hnext HYes HNo HJ HS
        go_wp2_with fail
        refine (unhide HX).mono ?_; rintro e w3 ⟨rfl, hb2⟩
        have HB2 := hide (bT hb hb2)
        clear hb2
        go_wp2
        go_ret
        exact ⟨congrArg (fun z => Ending.returned (.int .i64 z)) (unhide HE2).symm, unhide HB2⟩
      · have HNx := hide (hnext rfl)
        clear hno hnext HYes HNo HJ HS
        go_wp2_with fail
        refine (unhide HX).mono ?_; rintro e w3 ⟨rfl, hb2⟩
        have HB2 := hide (bT hb hb2)
        have HF2 := hide (F.of hb2)
        clear hb2
        go_wp2
        go_roundw
        case rel => exact ⟨j + 1, by omega, by go_num, unhide HNx, unhide HF2, unhide HB2⟩
        case measure => simp [intOf]; omega
    · obtain rfl : j = Exs.length := by omega
      have hall := unhide HJ
      rw [List.take_length] at hall
      have HE2 := hide (show E = (Exs.length : Int) by rw [unhide HYes (HS.out.2 hall)]; simp [stepF])
      clear hall HYes HNo HJ HS HXs HL3
      go_wp2
      go_ret
      exact ⟨congrArg (fun z => Ending.returned (.int .i64 z)) (unhide HE2).symm, hb⟩

theorem l4Width_calls (ts : List Tb) (i : Nat) (K T M Wd L R l r : Int) (Ex : List O2) (Exs : List (List O2)) (b4 b5 gt capt : Nat) (w : World) (hF : FldF ts.length i K T M Wd Ex.length Exs.length L R) (hl0 : 0 ≤ l) (hl1 : l ≤ 200) (hr0 : 0 ≤ r) (hr1 : r ≤ 200)
    (hb4 : b4 < w.heap.size) (hx : OpsAt w b4 0 Ex) (l1 : Ex.length ≤ 1048576) (hb5 : b5 < w.heap.size) (hxs : OpssAt w b5 Exs) (l2 : Exs.length ≤ 1048576) (l3 : ∀ xs ∈ Exs, xs.length ≤ 1048576) (hgt : gt < w.heap.size) (ht : TablesAt w gt 0 ts) :
    Calls Tryd.prog 66 #[.agg #[.int .i64 K, .int .i64 T, .int .i64 M, .int .i64 Wd, .slice (some ⟨b4, 0, none⟩) Ex.length Ex.length, .slice (some ⟨b5, 0, none⟩) Exs.length Exs.length, .int .i64 L, .int .i64 R], .agg #[.slice (some ⟨gt, 0, none⟩) ts.length capt], .int .i64 l, .int .i64 r] w fun e w' => e = .returned (.int .i64 (nodF ts ⟨K, T, M, Wd, Ex, Exs, L, R⟩ l r)) ∧ Below w.heap.size w w' := by
  obtain ⟨k1, k2, t1, _, _, _, _, _, _, _, _, x1, x2⟩ := hF
  have e : K = 1 ∨ K = 2 ∨ K = 3 ∨ K = 4 ∨ K = 5 ∨ K = 6 ∨ K = 7 ∨ K = 8 ∨ K = 9 ∨ K = 10 ∨ K = 11 := by omega
  by_cases h4 : K = 4
  · subst h4
    exact width4_4 ts T M Wd L R l r Ex Exs b4 b5 gt capt w hb5 hxs l2 l3
  obtain rfl : Exs = [] := List.eq_nil_of_length_eq_zero (by omega)
  rcases e with rfl | rfl | rfl | rfl | rfl | rfl | rfl | rfl | rfl | rfl | rfl
  · have HE : Hid (nodF ts ⟨1, T, M, Wd, Ex, [], L, R⟩ l r = 0) := by
      show _ = _
      rw [nodF_yes (by simp [SidP, matK, exK])]
      rfl
    generalize nodF ts ⟨1, T, M, Wd, Ex, [], L, R⟩ l r = E at *
    clear hx hxs ht x1
    go_enter Tryd.func66, Tryd.ntmps66
    go_wp2
    go_ret
    exact ⟨congrArg (fun z => Ending.returned (.int .i64 z)) HE.out.symm, bA (bA (Below.refl _ _) _) _⟩
  · obtain ⟨hT0, hT1⟩ := t1 rfl
    obtain ⟨t, rfl⟩ : ∃ t : Nat, T = (t : Int) := ⟨T.toNat, by omega⟩
    have htl : t < ts.length := by omega
    obtain ⟨_, d1, _⟩ := ht.at t htl
    simp only [Nat.zero_add] at d1
    have HE : Hid (nodF ts ⟨2, (t : Int), M, Wd, Ex, [], L, R⟩ l r = (ts[t]).Cols) := by
      show _ = _
      rw [nodF_yes (by simp [SidP, matK, exK])]
      simp [stepF, colsAt, htl]
    generalize nodF ts ⟨2, (t : Int), M, Wd, Ex, [], L, R⟩ l r = E at *
    generalize (ts[t]).Cols = C at *
    clear hx hxs ht x1 t1 hT0
    go_enter Tryd.func66, Tryd.ntmps66
    go_wp2
    go_ret
    exact ⟨congrArg (fun z => Ending.returned (.int .i64 z)) HE.out.symm, bA (bA (Below.refl _ _) _) _⟩
  · exact width4_3 ts T M Wd L R l r Ex b4 b5 gt capt w hl0 hl1 hr0 hr1 hb4 hx l1
  · exact absurd rfl h4
  · exact width4_5 ts T M Wd L R l r Ex b4 b5 gt capt w hl0 hl1 hr0 hr1 hb4 hx l1
  · exact width4_6 ts T M Wd L R l r Ex b4 b5 gt capt w hl0 hl1 hr0 hr1 hb4 hx l1
  · exact width4_7 ts T M Wd L R l r Ex b4 b5 gt capt w hl0 hl1 hr0 hr1 hb4 hx l1
  · exact width4_8 ts T M Wd L R l r Ex b4 b5 gt capt w hl0 hl1 hr0 hr1 hb4 hx l1
  · exact width4_9 ts T M Wd L R l r Ex b4 b5 gt capt w hl0 hl1 hr0 hr1 hb4 hx l1
  · exact width4_10 ts T M Wd L R l r Ex b4 b5 gt capt w hl0 hl1 hr0 hr1 hb4 hx l1
  · exact width4_11 ts T M Wd L R l r Ex b4 b5 gt capt w hl0 hl1 hr0 hr1 hb4 hx l1
end Go.Proofs.YtkdeilhkobcglaaDoor
