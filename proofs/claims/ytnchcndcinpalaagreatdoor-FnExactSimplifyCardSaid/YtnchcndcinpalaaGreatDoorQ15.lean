import Derived.Test.YtnchcndcinpalaaGreatDoorQ14
import Derived.Test.YtnchcndcinpalaaGreatDoorQ10
import Derived.Test.YtnchcndcinpalaaGreatDoorSpecFlat2
import Derived.Test.YtnchcndcinpalaaGreatDoorSpecFlat3
import Derived.Test.YtnchcndcinpalaaGreatDoorSpecFlat4
namespace Go.Proofs.YtnchcndcinpalaaGreatDoor
open Go Go.RowKit

theorem exOk_false {W : Int} {ops : List O2} (h : W < 0 ∨ ops.length = 0 ∨ 5000 < ops.length) : exOk W ops = false := by
  unfold exOk
  rw [decide_eq_false_iff_not]
  rintro ⟨h1, h2, h3⟩
  have := exOk_len h3
  omega
theorem exOk_bwd {W : Int} {ops : List O2} (h1 : 0 ≤ W) (h2 : ops.length ≤ 5000) : exOk W ops = (bwd W ops ops.length 1 == 0) := by
  unfold exOk
  rw [Bool.eq_iff_iff, decide_eq_true_eq, beq_iff_eq, fwd_iff_bwd]
  exact ⟨fun h => h.2.2, fun h => ⟨h1, h2, h⟩⟩

set_option maxHeartbeats 1000000 in
theorem sExOk_calls (ops : List O2) (g off cap : Nat) (W : Int) (w : World) (hg : g < w.heap.size) (hr : OpsAt w g off ops) (b1 : ops.length ≤ 1048576) :
    Calls Tryz.prog 97 #[.slice (some ⟨g, off, none⟩) ops.length cap, .int .i64 W] w fun e w' => e = .returned (.bool (exOk W ops)) ∧ Below w.heap.size w w' := by
  by_cases c1 : 0 ≤ W
  · by_cases c2 : 1 ≤ (ops.length : Int)
    · by_cases c3 : (ops.length : Int) ≤ 5000
      · have HE : Hid (exOk W ops = (bwd W ops ops.length 1 == 0)) := exOk_bwd c1 (by omega)
        go_enter Tryz.func97, Tryz.ntmps97
        go_wp2_with fail
        refine (l1Start_calls ops g off cap W ops.length _ _ hg hr b1 (Nat.le_refl _) rfl).mono ?_; rintro e w1 ⟨rfl, hb1⟩
        generalize bwd W ops ops.length 1 = z at *
        go_wp2
        go_ret
        exact ⟨congrArg (fun z => Ending.returned (.bool z)) HE.out.symm, hb1⟩
      · have HE : Hid (exOk W ops = false) := exOk_false (by omega)
        go_enter Tryz.func97, Tryz.ntmps97
        go_wp2
        go_ret
        exact ⟨congrArg (fun z => Ending.returned (.bool z)) HE.out.symm, Below.refl _ _⟩
    · have HE : Hid (exOk W ops = false) := exOk_false (by omega)
      go_enter Tryz.func97, Tryz.ntmps97
      go_wp2
      go_ret
      exact ⟨congrArg (fun z => Ending.returned (.bool z)) HE.out.symm, Below.refl _ _⟩
  · have HE : Hid (exOk W ops = false) := exOk_false (by omega)
    go_enter Tryz.func97, Tryz.ntmps97
    go_wp2
    go_ret
    exact ⟨congrArg (fun z => Ending.returned (.bool z)) HE.out.symm, Below.refl _ _⟩

abbrev TTakes (w : World) : Prop := TabAt w 3 [.int .i64 0, .int .i64 0, .int .i64 0, .int .i64 0, .int .i64 2, .int .i64 2, .int .i64 2, .int .i64 1, .int .i64 1]
theorem tk_kind {k n W : Int} (h : ¬ tk k n W < 0) : 1 ≤ k ∧ k ≤ 8 := by
  unfold tk at h
  repeat (split at h <;> try omega)
theorem takes_look {w : World} (h : TTakes w) (k : Nat) (n W : Int) (ht : ¬ tk k n W < 0) : w.cell? ⟨3, k, none⟩ = some (.int .i64 (tk k n W)) := by
  rw [h.cell]
  have e := tk_kind ht
  have e1 : k = 1 ∨ k = 2 ∨ k = 3 ∨ k = 4 ∨ k = 5 ∨ k = 6 ∨ k = 7 ∨ k = 8 := by omega
  unfold tk at ht ⊢
  rcases e1 with rfl | rfl | rfl | rfl | rfl | rfl | rfl | rfl <;> simp at ht ⊢ <;> (split at ht <;> first | assumption | omega)

theorem takes_lookI {w : World} (h : TTakes w) (k n W : Int) (ht : ¬ tk k n W < 0) : w.cell? ⟨3, k.toNat, none⟩ = some (.int .i64 (tk k n W)) := by
  obtain ⟨j, rfl⟩ := Int.eq_ofNat_of_zero_le (show 0 ≤ k by have := tk_kind ht; omega)
  exact takes_look h j n W ht
theorem fwd_drop (W : Int) (ops : List O2) (k h : Nat) (hk : k < ops.length) : fwd W (ops.drop k) h = fwd W (ops[k] :: ops.drop (k + 1)) h := by
  rw [List.drop_eq_getElem_cons hk]
theorem exOk_fwd {W : Int} {ops : List O2} (h1 : 0 ≤ W) (h2 : ops.length ≤ 5000) {r : Option Nat} (h : fwd W ops 0 = r) : exOk W ops = decide (r = some 1) := by
  unfold exOk
  rw [h]
  simp [h1, h2]

set_option maxHeartbeats 1000000 in
theorem ExOk_calls (ops : List O2) (g off cap : Nat) (W : Int) (w : World) (hT : TTakes w) (hg : g < w.heap.size) (hr : OpsAt w g off ops) (b1 : ops.length ≤ 1048576) :
    Calls Tryz.prog 124 #[.slice (some ⟨g, off, none⟩) ops.length cap, .int .i64 W] w fun e w' => e = .returned (.bool (exOk W ops)) ∧ Below w.heap.size w w' := by
  by_cases c3 : 5000 < (ops.length : Int)
  · have HE : Hid (exOk W ops = false) := exOk_false (by omega)
    go_enter Tryz.func124, Tryz.ntmps124
    go_wp2
    go_ret
    exact ⟨congrArg (fun z => Ending.returned (.bool z)) HE.out.symm, Below.refl _ _⟩
  by_cases c1 : W < 0
  · have HE : Hid (exOk W ops = false) := exOk_false (by omega)
    go_enter Tryz.func124, Tryz.ntmps124
    go_wp2
    go_ret
    exact ⟨congrArg (fun z => Ending.returned (.bool z)) HE.out.symm, Below.refl _ _⟩
  go_enter Tryz.func124, Tryz.ntmps124
  go_wp2
  go_loopw [5, 7, 17] (fun hh _ c wr => ∃ k h : Nat, k ≤ ops.length ∧ h ≤ k ∧ c = .int .i64 k ∧ hh = .int .i64 h ∧ fwd W ops 0 = fwd W (ops.drop k) h ∧ Below w.heap.size w wr) (fun _ _ c _ => ops.length - (intOf c).toNat)
  case atStart => exact ⟨0, 0, Nat.zero_le _, Nat.zero_le _, rfl, rfl, by simp, Below.refl _ _⟩
  case round =>
    obtain ⟨k, h, hk, hh, rfl, rfl, hF, hb⟩ := hrel
    have HF : Hid (fwd W ops 0 = fwd W (ops.drop k) h) := hF
    clear hF
    by_cases hlt : k < ops.length
    · obtain ⟨x0, x1⟩ := (hr.of hg hb).at k hlt
      have q1 : g < wr.heap.size := Nat.lt_of_lt_of_le hg hb.size
      have j1 : (k : Int) < (ops.length : Int) := by omega
      have hbad : tk ops[k].1 ops[k].2 W < 0 → exOk W ops = false := fun ht => by
        rw [exOk_fwd (by omega) (by omega) (HF.out.trans (fwd_drop W ops k h hlt))]; simp [fwd, ht]
      have hlow : ¬ tk ops[k].1 ops[k].2 W < 0 → (h : Int) < tk ops[k].1 ops[k].2 W → exOk W ops = false := fun ht hl => by
        rw [exOk_fwd (by omega) (by omega) (HF.out.trans (fwd_drop W ops k h hlt))]; simp [fwd, ht, hl]
      have hgo : ¬ tk ops[k].1 ops[k].2 W < 0 → ¬ (h : Int) < tk ops[k].1 ops[k].2 W → fwd W ops 0 = fwd W (ops.drop (k + 1)) (h + 1 - (tk ops[k].1 ops[k].2 W).toNat) := fun ht hl => by
        rw [HF.out, fwd_drop W ops k h hlt]; simp [fwd, ht, hl]
      have OPOK := fun w => opOk_calls ops[k].1 ops[k].2 W w
      have hkind : ¬ tk ops[k].1 ops[k].2 W < 0 → 1 ≤ ops[k].1 ∧ ops[k].1 ≤ 8 := fun ht => tk_kind ht
      have hlook : ∀ wx : World, TTakes wx → ¬ tk ops[k].1 ops[k].2 W < 0 → wx.cell? ⟨3, (ops[k].1).toNat, none⟩ = some (.int .i64 (tk ops[k].1 ops[k].2 W)) := fun wx hx ht => takes_lookI hx _ _ W ht
      have htr := tk_range ops[k].1 ops[k].2 W
      generalize tk ops[k].1 ops[k].2 W = t at *
      generalize ops[k].1 = K at *
      generalize ops[k].2 = N at *
      have Hbad := hide hbad; have Hlow := hide hlow; have Hgo := hide hgo; have Hop := hide OPOK; have Hkind := hide hkind; have Hlook := hide hlook
      clear hbad hlow hgo OPOK hkind hlook HF
      have hz := hT.size
      by_cases ht : t < 0
      · have e1 : decide (0 ≤ t) = false := by simp; omega
        go_wp2_with fail
        refine (unhide Hop _).mono ?_; rintro e w1 ⟨rfl, hb1⟩
        rw [e1]
        go_wp2
        go_ret
        exact ⟨congrArg (fun z => Ending.returned (.bool z)) (unhide Hbad ht).symm, bT (bA hb _) hb1⟩
      · have e1 : decide (0 ≤ t) = true := by simp; omega
        obtain ⟨hk1, hk8⟩ := unhide Hkind ht
        have k0 : (0 : Int) ≤ K := by omega
        have k9 : K < 9 := by omega
        go_wp2_with fail
        refine (unhide Hop _).mono ?_; rintro e w1 ⟨rfl, hb1⟩
        rw [e1]
        have d1 := bT (bA hb _) hb1
        have hL := unhide Hlook w1 (hT.of d1) ht
        obtain ⟨hc1, hf1⟩ := bcell hb1
        have hs1 : wr.heap.size < w1.heap.size := by have := hb1.size; simp at this; omega
        by_cases hl : (h : Int) < t
        · go_wp2
          go_ret
          exact ⟨congrArg (fun z => Ending.returned (.bool z)) (unhide Hlow ht hl).symm, d1⟩
        · have hw1 := wrap_small (1 - t) (by omega) (by omega)
          have hw2 := wrap_small ((h : Int) + (1 - t)) (by omega) (by omega)
          go_wp2
          go_roundw
          case rel => exact ⟨k + 1, h + 1 - t.toNat, by omega, by omega, by go_num, by congr 1; omega, unhide Hgo ht hl, d1⟩
          case measure => simp [intOf]; omega
    · obtain rfl : k = ops.length := by omega
      have HE : Hid (exOk W ops = ((h : Int) == 1)) := by
        show _ = _
        have := HF.out
        rw [List.drop_length] at this
        rw [exOk_fwd (by omega) (by omega) this]
        simp [fwd]
        rw [Bool.eq_iff_iff]
        simp
        omega
      clear HF
      go_wp2
      go_ret
      exact ⟨congrArg (fun z => Ending.returned (.bool z)) HE.out.symm, hb⟩
end Go.Proofs.YtnchcndcinpalaaGreatDoor
/-
  THE WIDTH OF A FLAT PLAN's NODE, as the specification finds it: what the walks share.
-/
namespace Go.Proofs.YtnchcndcinpalaaGreatDoor
open Go Go.RowKit

theorem nodF_yes {ts : List Tb} {p : Fn} {l r : Int} (h : SidP p l r) : nodF ts p l r = stepF ts p l r := by unfold nodF; rw [if_pos h]
theorem nodF_no {ts : List Tb} {p : Fn} {l r : Int} (h : ¬ SidP p l r) : nodF ts p l r = -1 := by unfold nodF; rw [if_neg h]
/-- the boxes of a node and of a Db -/
structure NB (s gt nt capt : Nat) (K T M Wd L R : Int) (u4 u5 : Value) (W : World) : Prop where
  c0 : W.cell? ⟨s, 0, none⟩ = some (.int .i64 K)
  c1 : W.cell? ⟨s, 1, none⟩ = some (.int .i64 T)
  c2 : W.cell? ⟨s, 2, none⟩ = some (.int .i64 M)
  c3 : W.cell? ⟨s, 3, none⟩ = some (.int .i64 Wd)
  c4 : W.cell? ⟨s, 4, none⟩ = some u4
  c5 : W.cell? ⟨s, 5, none⟩ = some u5
  c6 : W.cell? ⟨s, 6, none⟩ = some (.int .i64 L)
  c7 : W.cell? ⟨s, 7, none⟩ = some (.int .i64 R)
  d : W.cell? ⟨s + 1, 0, none⟩ = some (.slice (some ⟨gt, 0, none⟩) nt capt)
  sz0 : s < W.heap.size
  sz : s + 1 < W.heap.size
theorem NB.of {s gt nt capt : Nat} {K T M Wd L R : Int} {u4 u5 : Value} {W W1 : World} (h : NB s gt nt capt K T M Wd L R u4 u5 W) (hb : Below W.heap.size W W1) : NB s gt nt capt K T M Wd L R u4 u5 W1 := by
  have hs := h.sz
  have h0 := h.sz0
  exact ⟨(hb.cell (p := ⟨s, 0, none⟩) h0).trans h.c0, (hb.cell (p := ⟨s, 1, none⟩) h0).trans h.c1, (hb.cell (p := ⟨s, 2, none⟩) h0).trans h.c2, (hb.cell (p := ⟨s, 3, none⟩) h0).trans h.c3, (hb.cell (p := ⟨s, 4, none⟩) h0).trans h.c4, (hb.cell (p := ⟨s, 5, none⟩) h0).trans h.c5, (hb.cell (p := ⟨s, 6, none⟩) h0).trans h.c6, (hb.cell (p := ⟨s, 7, none⟩) h0).trans h.c7, (hb.cell (p := ⟨s + 1, 0, none⟩) hs).trans h.d, Nat.lt_of_lt_of_le h0 hb.size, Nat.lt_of_lt_of_le hs hb.size⟩

theorem l4Fields_calls (nt i : Nat) (K T M Wd L R : Int) (le ls : Nat) (a4 a5 : Option Addr) (c4 c5 g cap : Nat) (w : World) :
    Calls Tryz.prog 54 #[.agg #[.int .i64 K, .int .i64 T, .int .i64 M, .int .i64 Wd, .slice a4 le c4, .slice a5 ls c5, .int .i64 L, .int .i64 R], .int .i64 (i : Int), .agg #[.slice (some ⟨g, 0, none⟩) nt cap]] w fun e w' => e = .returned (.bool (dB (FldF nt i K T M Wd le ls L R))) ∧ Below w.heap.size w w' := by
  by_cases h1 : K < 1
  · have HE : Hid (dB (FldF nt i K T M Wd le ls L R) = false) := dB_false (fun h => by have := h.1; omega)
    generalize dB (FldF nt i K T M Wd le ls L R) = E at *
    go_enter Tryz.func54, Tryz.ntmps54
    go_wp2
    go_ret
    exact ⟨congrArg (fun z => Ending.returned (.bool z)) HE.out.symm, bA (bA (Below.refl _ _) _) _⟩
  by_cases h2 : 11 < K
  · have HE : Hid (dB (FldF nt i K T M Wd le ls L R) = false) := dB_false (fun h => by have := h.2.1; omega)
    generalize dB (FldF nt i K T M Wd le ls L R) = E at *
    go_enter Tryz.func54, Tryz.ntmps54
    go_wp2
    go_ret
    exact ⟨congrArg (fun z => Ending.returned (.bool z)) HE.out.symm, bA (bA (Below.refl _ _) _) _⟩
  have e : K = 1 ∨ K = 2 ∨ K = 3 ∨ K = 4 ∨ K = 5 ∨ K = 6 ∨ K = 7 ∨ K = 8 ∨ K = 9 ∨ K = 10 ∨ K = 11 := by omega
  rcases e with rfl | rfl | rfl | rfl | rfl | rfl | rfl | rfl | rfl | rfl | rfl
  · exact l4Fields_1 nt i T M Wd L R le ls a4 a5 c4 c5 g cap w
  · exact l4Fields_2 nt i T M Wd L R le ls a4 a5 c4 c5 g cap w
  · exact l4Fields_3 nt i T M Wd L R le ls a4 a5 c4 c5 g cap w
  · exact l4Fields_4 nt i T M Wd L R le ls a4 a5 c4 c5 g cap w
  · exact l4Fields_5 nt i T M Wd L R le ls a4 a5 c4 c5 g cap w
  · exact l4Fields_6 nt i T M Wd L R le ls a4 a5 c4 c5 g cap w
  · exact l4Fields_7 nt i T M Wd L R le ls a4 a5 c4 c5 g cap w
  · exact l4Fields_8 nt i T M Wd L R le ls a4 a5 c4 c5 g cap w
  · exact l4Fields_9 nt i T M Wd L R le ls a4 a5 c4 c5 g cap w
  · exact l4Fields_10 nt i T M Wd L R le ls a4 a5 c4 c5 g cap w
  · exact l4Fields_11 nt i T M Wd L R le ls a4 a5 c4 c5 g cap w
end Go.Proofs.YtnchcndcinpalaaGreatDoor
/-
  THE WIDTH OF A FLAT PLAN's NODE, as the specification finds it: kinds 3, 5, 8, 9.
-/
namespace Go.Proofs.YtnchcndcinpalaaGreatDoor
open Go Go.RowKit

set_option maxRecDepth 100000 in
set_option maxHeartbeats 4000000 in
theorem width4_3 (ts : List Tb) (T M Wd L R l r : Int) (Ex : List O2) (b4 b5 gt capt : Nat) (w : World) (hl0 : 0 ≤ l) (hl1 : l ≤ 200) (hr0 : 0 ≤ r) (hr1 : r ≤ 200) (hb4 : b4 < w.heap.size) (hx : OpsAt w b4 0 Ex) (l1 : Ex.length ≤ 1048576) :
    Calls Tryz.prog 57 #[.agg #[.int .i64 3, .int .i64 T, .int .i64 M, .int .i64 Wd, .slice (some ⟨b4, 0, none⟩) Ex.length Ex.length, .slice (some ⟨b5, 0, none⟩) 0 0, .int .i64 L, .int .i64 R], .agg #[.slice (some ⟨gt, 0, none⟩) ts.length capt], .int .i64 l, .int .i64 r] w fun e w' => e = .returned (.int .i64 (nodF ts ⟨3, T, M, Wd, Ex, [], L, R⟩ l r)) ∧ Below w.heap.size w w' := by
  have hbnd : 0 ≤ l ∧ l ≤ 200 ∧ 0 ≤ r ∧ r ≤ 200 := ⟨hl0, hl1, hr0, hr1⟩
  clear hbnd
  have HMat := hide (fun W => l4Matches_calls 3 W)
  rw [show decide (matK 3) = false by decide] at HMat
  have HUse := hide (fun W => l4UsesEx_calls 3 T M Wd L R (.slice (some ⟨b4, 0, none⟩) Ex.length Ex.length) (.slice (some ⟨b5, 0, none⟩) 0 0) W)
  rw [show decide (exK 3 M) = true from decide_eq_true (by unfold exK; omega)] at HUse
  have HEx := hide (fun W (hb : Below w.heap.size w W) => sExOk_calls Ex b4 0 Ex.length l W (Nat.lt_of_lt_of_le hb4 hb.size) (hx.of hb4 hb) l1)
  have HYes := hide (fun h => nodF_yes (ts := ts) (p := ⟨3, T, M, Wd, Ex, [], L, R⟩) (l := l) (r := r) h)
  have HNo := hide (fun h => nodF_no (ts := ts) (p := ⟨3, T, M, Wd, Ex, [], L, R⟩) (l := l) (r := r) h)
  clear hx hb4
  generalize nodF ts ⟨3, T, M, Wd, Ex, [], L, R⟩ l r = E at *
  have HS : Hid (SidP ⟨3, T, M, Wd, Ex, [], L, R⟩ l r ↔ exOk l Ex = true) := by
    show _ ↔ _
    simp [SidP, matK, exK]
  cases hX : exOk l Ex
  · rw [hX] at HEx
    have HE := hide (show E = -1 by exact unhide HNo (fun h => by have := (HS.out.1 h); rw [hX] at this; cases this))
    clear HYes HNo HS
    go_enter Tryz.func57, Tryz.ntmps57
    go_wp2_with fail
    refine (unhide HMat _).mono ?_; rintro e w1 ⟨rfl, rfl⟩
    go_wp2_with fail
    refine (unhide HUse _).mono ?_; rintro e w2 ⟨rfl, hb⟩
    have n2 := bT (bA (bA (Below.refl _ _) _) _ : Below w.heap.size w _) hb
    have F := NB.of (s := w.heap.size) (gt := gt) (nt := ts.length) (capt := capt) (K := 3) (T := T) (M := M) (Wd := Wd) (L := L) (R := R) (u4 := .slice (some ⟨b4, 0, none⟩) Ex.length Ex.length) (u5 := .slice (some ⟨b5, 0, none⟩) 0 0) ⟨by simp [go_sem], by simp [go_sem], by simp [go_sem], by simp [go_sem], by simp [go_sem], by simp [go_sem], by simp [go_sem], by simp [go_sem], by simp [go_sem], (by simp <;> omega), (by simp <;> omega)⟩ hb
    clear hb
    obtain ⟨f0, f1, f2, f3, f4, f5, f6, f7, fd, fs0, fs⟩ := id F
    go_wp2_with fail
    refine (unhide HEx _ n2).mono ?_; rintro e w3 ⟨rfl, hb⟩
    have n3 := bT n2 hb
    go_wp2
    go_ret
    exact ⟨congrArg (fun z => Ending.returned (.int .i64 z)) (unhide HE).symm, n3⟩
  · rw [hX] at HEx
    have HE := hide (show E = l by rw [unhide HYes (HS.out.2 hX)]; simp [stepF])
    clear HYes HNo HS
    go_enter Tryz.func57, Tryz.ntmps57
    go_wp2_with fail
    refine (unhide HMat _).mono ?_; rintro e w1 ⟨rfl, rfl⟩
    go_wp2_with fail
    refine (unhide HUse _).mono ?_; rintro e w2 ⟨rfl, hb⟩
    have n2 := bT (bA (bA (Below.refl _ _) _) _ : Below w.heap.size w _) hb
    have F := NB.of (s := w.heap.size) (gt := gt) (nt := ts.length) (capt := capt) (K := 3) (T := T) (M := M) (Wd := Wd) (L := L) (R := R) (u4 := .slice (some ⟨b4, 0, none⟩) Ex.length Ex.length) (u5 := .slice (some ⟨b5, 0, none⟩) 0 0) ⟨by simp [go_sem], by simp [go_sem], by simp [go_sem], by simp [go_sem], by simp [go_sem], by simp [go_sem], by simp [go_sem], by simp [go_sem], by simp [go_sem], (by simp <;> omega), (by simp <;> omega)⟩ hb
    clear hb
    obtain ⟨f0, f1, f2, f3, f4, f5, f6, f7, fd, fs0, fs⟩ := id F
    go_wp2_with fail
    refine (unhide HEx _ n2).mono ?_; rintro e w3 ⟨rfl, hb⟩
    have n3 := bT n2 hb
    have F3 := F.of hb
    clear hb f0 f1 f2 f3 f4 f5 f6 f7 fd fs0 fs F n2
    obtain ⟨f0, f1, f2, f3, f4, f5, f6, f7, fd, fs0, fs⟩ := id F3
    go_wp2
    go_loopw [10] (fun c wr => c = .int .i64 0 ∧ wr = w3) (fun _ _ => 0)
    case atStart => exact ⟨rfl, rfl⟩
    case round =>
      obtain ⟨rfl, rfl⟩ := hrel
      go_wp2
      go_ret
      exact ⟨congrArg (fun z => Ending.returned (.int .i64 z)) (unhide HE).symm, n3⟩

set_option maxRecDepth 100000 in
set_option maxHeartbeats 4000000 in
theorem width4_5 (ts : List Tb) (T M Wd L R l r : Int) (Ex : List O2) (b4 b5 gt capt : Nat) (w : World) (hl0 : 0 ≤ l) (hl1 : l ≤ 200) (hr0 : 0 ≤ r) (hr1 : r ≤ 200) (hb4 : b4 < w.heap.size) (hx : OpsAt w b4 0 Ex) (l1 : Ex.length ≤ 1048576) :
    Calls Tryz.prog 57 #[.agg #[.int .i64 5, .int .i64 T, .int .i64 M, .int .i64 Wd, .slice (some ⟨b4, 0, none⟩) Ex.length Ex.length, .slice (some ⟨b5, 0, none⟩) 0 0, .int .i64 L, .int .i64 R], .agg #[.slice (some ⟨gt, 0, none⟩) ts.length capt], .int .i64 l, .int .i64 r] w fun e w' => e = .returned (.int .i64 (nodF ts ⟨5, T, M, Wd, Ex, [], L, R⟩ l r)) ∧ Below w.heap.size w w' := by
  have hbnd : 0 ≤ l ∧ l ≤ 200 ∧ 0 ≤ r ∧ r ≤ 200 := ⟨hl0, hl1, hr0, hr1⟩
  clear hbnd
  have HMat := hide (fun W => l4Matches_calls 5 W)
  rw [show decide (matK 5) = true by decide] at HMat
  have HUse := hide (fun W => l4UsesEx_calls 5 T M Wd L R (.slice (some ⟨b4, 0, none⟩) Ex.length Ex.length) (.slice (some ⟨b5, 0, none⟩) 0 0) W)
  rw [show decide (exK 5 M) = false from decide_eq_false (by unfold exK; omega)] at HUse
  have HEx := hide (fun W (hb : Below w.heap.size w W) => sExOk_calls Ex b4 0 Ex.length r W (Nat.lt_of_lt_of_le hb4 hb.size) (hx.of hb4 hb) l1)
  have HYes := hide (fun h => nodF_yes (ts := ts) (p := ⟨5, T, M, Wd, Ex, [], L, R⟩) (l := l) (r := r) h)
  have HNo := hide (fun h => nodF_no (ts := ts) (p := ⟨5, T, M, Wd, Ex, [], L, R⟩) (l := l) (r := r) h)
  clear hx hb4
  generalize nodF ts ⟨5, T, M, Wd, Ex, [], L, R⟩ l r = E at *
  have HS : Hid (SidP ⟨5, T, M, Wd, Ex, [], L, R⟩ l r ↔ (0 ≤ Wd ∧ Wd ≤ l ∧ Wd ≤ r)) := by
    show _ ↔ _
    simp [SidP, matK, exK]
  by_cases hw1 : Wd < 0
  · have HE := hide (show E = -1 by exact unhide HNo (fun h => by have := (HS.out.1 h); omega))
    clear HYes HNo HS
    go_enter Tryz.func57, Tryz.ntmps57
    go_wp2_with fail
    refine (unhide HMat _).mono ?_; rintro e w1 ⟨rfl, rfl⟩
    go_wp2
    go_ret
    exact ⟨congrArg (fun z => Ending.returned (.int .i64 z)) (unhide HE).symm, bA (bA (Below.refl _ _) _) _⟩
  by_cases hw2 : l < Wd
  · have HE := hide (show E = -1 by exact unhide HNo (fun h => by have := (HS.out.1 h); omega))
    clear HYes HNo HS
    go_enter Tryz.func57, Tryz.ntmps57
    go_wp2_with fail
    refine (unhide HMat _).mono ?_; rintro e w1 ⟨rfl, rfl⟩
    go_wp2
    go_ret
    exact ⟨congrArg (fun z => Ending.returned (.int .i64 z)) (unhide HE).symm, bA (bA (Below.refl _ _) _) _⟩
  by_cases hw3 : r < Wd
  · have HE := hide (show E = -1 by exact unhide HNo (fun h => by have := (HS.out.1 h); omega))
    clear HYes HNo HS
    go_enter Tryz.func57, Tryz.ntmps57
    go_wp2_with fail
    refine (unhide HMat _).mono ?_; rintro e w1 ⟨rfl, rfl⟩
    go_wp2
    go_ret
    exact ⟨congrArg (fun z => Ending.returned (.int .i64 z)) (unhide HE).symm, bA (bA (Below.refl _ _) _) _⟩
  have HE := hide (show E = l + r - Wd by rw [unhide HYes (HS.out.2 ⟨by omega, by omega, by omega⟩)]; simp [stepF])
  clear HYes HNo HS
  go_enter Tryz.func57, Tryz.ntmps57
  go_wp2_with fail
  refine (unhide HMat _).mono ?_; rintro e w1 ⟨rfl, rfl⟩
  go_wp2_with fail
  refine (unhide HUse _).mono ?_; rintro e w2 ⟨rfl, hb⟩
  have n2 := bT (bA (bA (Below.refl _ _) _) _ : Below w.heap.size w _) hb
  have F := NB.of (s := w.heap.size) (gt := gt) (nt := ts.length) (capt := capt) (K := 5) (T := T) (M := M) (Wd := Wd) (L := L) (R := R) (u4 := .slice (some ⟨b4, 0, none⟩) Ex.length Ex.length) (u5 := .slice (some ⟨b5, 0, none⟩) 0 0) ⟨by simp [go_sem], by simp [go_sem], by simp [go_sem], by simp [go_sem], by simp [go_sem], by simp [go_sem], by simp [go_sem], by simp [go_sem], by simp [go_sem], (by simp <;> omega), (by simp <;> omega)⟩ hb
  clear hb
  obtain ⟨f0, f1, f2, f3, f4, f5, f6, f7, fd, fs0, fs⟩ := id F
  go_wp2
  go_loopw [10] (fun c wr => c = .int .i64 0 ∧ wr = w2) (fun _ _ => 0)
  case atStart => exact ⟨rfl, rfl⟩
  case round =>
    obtain ⟨rfl, rfl⟩ := hrel
    go_wp2
    go_ret
    exact ⟨congrArg (fun z => Ending.returned (.int .i64 z)) (unhide HE).symm, n2⟩

set_option maxRecDepth 100000 in
set_option maxHeartbeats 4000000 in
theorem width4_8 (ts : List Tb) (T M Wd L R l r : Int) (Ex : List O2) (b4 b5 gt capt : Nat) (w : World) (hl0 : 0 ≤ l) (hl1 : l ≤ 200) (hr0 : 0 ≤ r) (hr1 : r ≤ 200) (hb4 : b4 < w.heap.size) (hx : OpsAt w b4 0 Ex) (l1 : Ex.length ≤ 1048576) :
    Calls Tryz.prog 57 #[.agg #[.int .i64 8, .int .i64 T, .int .i64 M, .int .i64 Wd, .slice (some ⟨b4, 0, none⟩) Ex.length Ex.length, .slice (some ⟨b5, 0, none⟩) 0 0, .int .i64 L, .int .i64 R], .agg #[.slice (some ⟨gt, 0, none⟩) ts.length capt], .int .i64 l, .int .i64 r] w fun e w' => e = .returned (.int .i64 (nodF ts ⟨8, T, M, Wd, Ex, [], L, R⟩ l r)) ∧ Below w.heap.size w w' := by
  have hbnd : 0 ≤ l ∧ l ≤ 200 ∧ 0 ≤ r ∧ r ≤ 200 := ⟨hl0, hl1, hr0, hr1⟩
  clear hbnd
  have HMat := hide (fun W => l4Matches_calls 8 W)
  rw [show decide (matK 8) = false by decide] at HMat
  have HUse := hide (fun W => l4UsesEx_calls 8 T M Wd L R (.slice (some ⟨b4, 0, none⟩) Ex.length Ex.length) (.slice (some ⟨b5, 0, none⟩) 0 0) W)
  rw [show decide (exK 8 M) = false from decide_eq_false (by unfold exK; omega)] at HUse
  have HEx := hide (fun W (hb : Below w.heap.size w W) => sExOk_calls Ex b4 0 Ex.length r W (Nat.lt_of_lt_of_le hb4 hb.size) (hx.of hb4 hb) l1)
  have HYes := hide (fun h => nodF_yes (ts := ts) (p := ⟨8, T, M, Wd, Ex, [], L, R⟩) (l := l) (r := r) h)
  have HNo := hide (fun h => nodF_no (ts := ts) (p := ⟨8, T, M, Wd, Ex, [], L, R⟩) (l := l) (r := r) h)
  clear hx hb4
  generalize nodF ts ⟨8, T, M, Wd, Ex, [], L, R⟩ l r = E at *
  have HS : Hid (SidP ⟨8, T, M, Wd, Ex, [], L, R⟩ l r ↔ True) := by
    show _ ↔ _
    simp [SidP, matK, exK]
  have HE := hide (show E = l by rw [unhide HYes (HS.out.2 trivial)]; simp [stepF])
  clear HYes HNo HS
  go_enter Tryz.func57, Tryz.ntmps57
  go_wp2_with fail
  refine (unhide HMat _).mono ?_; rintro e w1 ⟨rfl, rfl⟩
  go_wp2_with fail
  refine (unhide HUse _).mono ?_; rintro e w2 ⟨rfl, hb⟩
  have n2 := bT (bA (bA (Below.refl _ _) _) _ : Below w.heap.size w _) hb
  have F := NB.of (s := w.heap.size) (gt := gt) (nt := ts.length) (capt := capt) (K := 8) (T := T) (M := M) (Wd := Wd) (L := L) (R := R) (u4 := .slice (some ⟨b4, 0, none⟩) Ex.length Ex.length) (u5 := .slice (some ⟨b5, 0, none⟩) 0 0) ⟨by simp [go_sem], by simp [go_sem], by simp [go_sem], by simp [go_sem], by simp [go_sem], by simp [go_sem], by simp [go_sem], by simp [go_sem], by simp [go_sem], (by simp <;> omega), (by simp <;> omega)⟩ hb
  clear hb
  obtain ⟨f0, f1, f2, f3, f4, f5, f6, f7, fd, fs0, fs⟩ := id F
  go_wp2
  go_loopw [10] (fun c wr => c = .int .i64 0 ∧ wr = w2) (fun _ _ => 0)
  case atStart => exact ⟨rfl, rfl⟩
  case round =>
    obtain ⟨rfl, rfl⟩ := hrel
    go_wp2
    go_ret
    exact ⟨congrArg (fun z => Ending.returned (.int .i64 z)) (unhide HE).symm, n2⟩

set_option maxRecDepth 100000 in
set_option maxHeartbeats 4000000 in
theorem width4_9 (ts : List Tb) (T M Wd L R l r : Int) (Ex : List O2) (b4 b5 gt capt : Nat) (w : World) (hl0 : 0 ≤ l) (hl1 : l ≤ 200) (hr0 : 0 ≤ r) (hr1 : r ≤ 200) (hb4 : b4 < w.heap.size) (hx : OpsAt w b4 0 Ex) (l1 : Ex.length ≤ 1048576) :
    Calls Tryz.prog 57 #[.agg #[.int .i64 9, .int .i64 T, .int .i64 M, .int .i64 Wd, .slice (some ⟨b4, 0, none⟩) Ex.length Ex.length, .slice (some ⟨b5, 0, none⟩) 0 0, .int .i64 L, .int .i64 R], .agg #[.slice (some ⟨gt, 0, none⟩) ts.length capt], .int .i64 l, .int .i64 r] w fun e w' => e = .returned (.int .i64 (nodF ts ⟨9, T, M, Wd, Ex, [], L, R⟩ l r)) ∧ Below w.heap.size w w' := by
  have hbnd : 0 ≤ l ∧ l ≤ 200 ∧ 0 ≤ r ∧ r ≤ 200 := ⟨hl0, hl1, hr0, hr1⟩
  clear hbnd
  have HMat := hide (fun W => l4Matches_calls 9 W)
  rw [show decide (matK 9) = false by decide] at HMat
  have HUse := hide (fun W => l4UsesEx_calls 9 T M Wd L R (.slice (some ⟨b4, 0, none⟩) Ex.length Ex.length) (.slice (some ⟨b5, 0, none⟩) 0 0) W)
  rw [show decide (exK 9 M) = false from decide_eq_false (by unfold exK; omega)] at HUse
  have HEx := hide (fun W (hb : Below w.heap.size w W) => sExOk_calls Ex b4 0 Ex.length r W (Nat.lt_of_lt_of_le hb4 hb.size) (hx.of hb4 hb) l1)
  have HYes := hide (fun h => nodF_yes (ts := ts) (p := ⟨9, T, M, Wd, Ex, [], L, R⟩) (l := l) (r := r) h)
  have HNo := hide (fun h => nodF_no (ts := ts) (p := ⟨9, T, M, Wd, Ex, [], L, R⟩) (l := l) (r := r) h)
  clear hx hb4
  generalize nodF ts ⟨9, T, M, Wd, Ex, [], L, R⟩ l r = E at *
  have HS : Hid (SidP ⟨9, T, M, Wd, Ex, [], L, R⟩ l r ↔ l = r) := by
    show _ ↔ _
    simp [SidP, matK, exK]
  by_cases h9 : l = r
  · subst h9
    have h9' : (l != l) = false := by simp
    have HE := hide (show E = l by rw [unhide HYes (HS.out.2 rfl)]; simp [stepF])
    clear HYes HNo HS
    go_enter Tryz.func57, Tryz.ntmps57
    go_wp2_with fail
    refine (unhide HMat _).mono ?_; rintro e w1 ⟨rfl, rfl⟩
    go_wp2_with fail
    refine (unhide HUse _).mono ?_; rintro e w2 ⟨rfl, hb⟩
    have n2 := bT (bA (bA (Below.refl _ _) _) _ : Below w.heap.size w _) hb
    have F := NB.of (s := w.heap.size) (gt := gt) (nt := ts.length) (capt := capt) (K := 9) (T := T) (M := M) (Wd := Wd) (L := L) (R := R) (u4 := .slice (some ⟨b4, 0, none⟩) Ex.length Ex.length) (u5 := .slice (some ⟨b5, 0, none⟩) 0 0) ⟨by simp [go_sem], by simp [go_sem], by simp [go_sem], by simp [go_sem], by simp [go_sem], by simp [go_sem], by simp [go_sem], by simp [go_sem], by simp [go_sem], (by simp <;> omega), (by simp <;> omega)⟩ hb
    clear hb
    obtain ⟨f0, f1, f2, f3, f4, f5, f6, f7, fd, fs0, fs⟩ := id F
    go_wp2
    go_loopw [10] (fun c wr => c = .int .i64 0 ∧ wr = w2) (fun _ _ => 0)
    case atStart => exact ⟨rfl, rfl⟩
    case round =>
      obtain ⟨rfl, rfl⟩ := hrel
      go_wp2
      go_ret
      exact ⟨congrArg (fun z => Ending.returned (.int .i64 z)) (unhide HE).symm, n2⟩
  · have h9' : (l != r) = true := by simp [h9]
    have HE := hide (show E = -1 by exact unhide HNo (fun h => by have := HS.out.1 h; omega))
    clear HYes HNo HS
    go_enter Tryz.func57, Tryz.ntmps57
    go_wp2_with fail
    refine (unhide HMat _).mono ?_; rintro e w1 ⟨rfl, rfl⟩
    go_wp2_with fail
    refine (unhide HUse _).mono ?_; rintro e w2 ⟨rfl, hb⟩
    have n2 := bT (bA (bA (Below.refl _ _) _) _ : Below w.heap.size w _) hb
    have F := NB.of (s := w.heap.size) (gt := gt) (nt := ts.length) (capt := capt) (K := 9) (T := T) (M := M) (Wd := Wd) (L := L) (R := R) (u4 := .slice (some ⟨b4, 0, none⟩) Ex.length Ex.length) (u5 := .slice (some ⟨b5, 0, none⟩) 0 0) ⟨by simp [go_sem], by simp [go_sem], by simp [go_sem], by simp [go_sem], by simp [go_sem], by simp [go_sem], by simp [go_sem], by simp [go_sem], by simp [go_sem], (by simp <;> omega), (by simp <;> omega)⟩ hb
    clear hb
    obtain ⟨f0, f1, f2, f3, f4, f5, f6, f7, fd, fs0, fs⟩ := id F
    go_wp2
    go_loopw [10] (fun c wr => c = .int .i64 0 ∧ wr = w2) (fun _ _ => 0)
    case atStart => exact ⟨rfl, rfl⟩
    case round =>
      obtain ⟨rfl, rfl⟩ := hrel
      go_wp2
      go_ret
      exact ⟨congrArg (fun z => Ending.returned (.int .i64 z)) (unhide HE).symm, n2⟩
end Go.Proofs.YtnchcndcinpalaaGreatDoor
