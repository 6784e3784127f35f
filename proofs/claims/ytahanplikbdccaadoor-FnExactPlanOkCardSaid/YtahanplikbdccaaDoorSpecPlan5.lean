/-
  THE SPECIFICATION's WIDTH OF A NODE: a node with no kid.
-/
import Derived.Test.YtahanplikbdccaaDoorSpecPlan4
import Derived.BigQuiet
import Derived.Deep.RegionHeld3
namespace Go.Proofs.YtahanplikbdccaaDoor
open Go Go.RowKit

set_option maxHeartbeats 4000000 in
theorem width_1 (ts : List Tb) (ps : List Pn) (g cap gt capt i : Nat) (env : Int) (w : World) (H : WHyp ts ps g cap gt capt i env w) (hi : i < ps.length) (_hfr : frm (nds ps) i ≠ -1) (hu : UsedP ts ps[i]) (hK : (ps[i]).K = 1) :
    Calls Tryd.prog 27 #[.agg #[.slice (some ⟨g, 0, none⟩) ps.length cap], .agg #[.slice (some ⟨gt, 0, none⟩) ts.length capt], .int .i64 (i : Int), .int .i64 env] w fun e w' => e = .returned (.int .i64 (wid ts ps i env)) ∧ Below w.heap.size w w' := by
  obtain ⟨c0, c1, c2, c5, c6, ⟨b3, c3, _, hb3, ho3⟩, b4, c4, _, hb4, ho4⟩ := H.hn.at i hi
  have hf := H.fit _ (List.getElem_mem hi)
  have HU := hide (fun W => l3Used_calls ts.length (ps[i]).K (ps[i]).T (ps[i]).M (ps[i]).L (ps[i]).R (ps[i]).Ex.length (ps[i]).Exs.length (some ⟨b3, 0, none⟩) (some ⟨b4, 0, none⟩) (ps[i]).Ex.length (ps[i]).Exs.length gt capt W hf.1 hf.2.1)
  have HD : Hid (dB (UsedP ts ps[i]) = true) := dB_true hu
  have HK : Hid (∀ W, Calls Tryd.prog 41 #[.int .i64 1] W fun e w' => e = .returned (.int .i64 0) ∧ w' = W) := fun W => by
    have h := l3Kids_calls 1 W
    rw [show arity 1 = 0 by rfl] at h
    exact h
  have HE := hide (show wid ts ps i env = 0 by rw [wid_leaf hi env hu (by rw [hK]; rfl)]; have := H.e1; unfold nodeW rawW; simp [hK]; omega)
  have hg := H.hg
  have l1 := H.lp
  have e0 := H.e0
  have e1 := H.e1
  have hl3 := hf.1
  have hl4 := hf.2.1
  clear H hu hf
  simp only [Nat.zero_add] at c0 c1 c2 c3 c4 c5 c6
  unfold UsedP at HD
  cases e : ps[i] with | mk K T M Ex Exs L R =>
  rw [e] at c0 c1 c2 c3 c4 c5 c6 HU HD hK hl3 hl4
  simp only at c0 c1 c2 c3 c4 c5 c6 HU HD hK hl3 hl4
  clear e
  generalize dB (usedP ts.length K T M Ex.length Exs.length) = B at *
  subst hK
  have j0 : (i : Int) < (ps.length : Int) := by omega
  obtain rfl := HD.out
  go_enter Tryd.func27, Tryd.ntmps27
  go_wp2_with fail
  refine (unhide HU _).mono ?_; rintro e w1 ⟨rfl, hb⟩
  have n1 := bT (bA (bA (bA (Below.refl w.heap.size w) _) _) _) hb
  have F := WF.of (s := w.heap.size) (g := g) (np := ps.length) (cap := cap) (gt := gt) (nt := ts.length) (capt := capt) (K := 1) (T := T) (M := M) (L := L) (R := R) (u3 := .slice (some ⟨b3, 0, none⟩) Ex.length Ex.length) (u4 := .slice (some ⟨b4, 0, none⟩) Exs.length Exs.length) ⟨by simp [go_sem], by simp [go_sem], by simp [go_sem], by simp [go_sem], by simp [go_sem], by simp [go_sem], by simp [go_sem], by simp [go_sem], by simp [go_sem], by simp⟩ hb
  clear hb c0 c1 c2 c3 c4 c5 c6 HU
  obtain ⟨fp, fd, f0, f1, f2, f3, f4, f5, f6, fs⟩ := id F
  go_wp2_with fail
  refine (unhide HK _).mono ?_; rintro e w2 ⟨rfl, hw⟩; obtain rfl := hw.symm
  go_wp2_with fail
  refine (unhide HK _).mono ?_; rintro e w2 ⟨rfl, hw⟩; obtain rfl := hw.symm
  go_wp2
  go_ret
  exact ⟨congrArg (fun z => Ending.returned (.int .i64 z)) (unhide HE).symm, n1⟩
set_option maxHeartbeats 4000000 in
theorem width_2 (ts : List Tb) (ps : List Pn) (g cap gt capt i : Nat) (env : Int) (w : World) (H : WHyp ts ps g cap gt capt i env w) (hi : i < ps.length) (_hfr : frm (nds ps) i ≠ -1) (hu : UsedP ts ps[i]) (hK : (ps[i]).K = 2) :
    Calls Tryd.prog 27 #[.agg #[.slice (some ⟨g, 0, none⟩) ps.length cap], .agg #[.slice (some ⟨gt, 0, none⟩) ts.length capt], .int .i64 (i : Int), .int .i64 env] w fun e w' => e = .returned (.int .i64 (wid ts ps i env)) ∧ Below w.heap.size w w' := by
  obtain ⟨c0, c1, c2, c5, c6, ⟨b3, c3, _, hb3, ho3⟩, b4, c4, _, hb4, ho4⟩ := H.hn.at i hi
  have hf := H.fit _ (List.getElem_mem hi)
  have HU := hide (fun W => l3Used_calls ts.length (ps[i]).K (ps[i]).T (ps[i]).M (ps[i]).L (ps[i]).R (ps[i]).Ex.length (ps[i]).Exs.length (some ⟨b3, 0, none⟩) (some ⟨b4, 0, none⟩) (ps[i]).Ex.length (ps[i]).Exs.length gt capt W hf.1 hf.2.1)
  have HD : Hid (dB (UsedP ts ps[i]) = true) := dB_true hu
  have HK : Hid (∀ W, Calls Tryd.prog 41 #[.int .i64 2] W fun e w' => e = .returned (.int .i64 0) ∧ w' = W) := fun W => by
    have h := l3Kids_calls 2 W
    rw [show arity 2 = 0 by rfl] at h
    exact h
  have hT : 0 ≤ (ps[i]).T ∧ (ps[i]).T < (ts.length : Int) := hu.2.1 hK
  obtain ⟨tn, htn⟩ : ∃ tn : Nat, (ps[i]).T = (tn : Int) := ⟨(ps[i]).T.toNat, by omega⟩
  have htl : tn < ts.length := by omega
  have hcl := H.cols _ (List.getElem_mem htl)
  have hca : colsAt ts (ps[i]).T = (ts[tn]).Cols := by rw [htn]; unfold colsAt; simp [htl]
  have hE : wid ts ps i env = if 200 < env + (ts[tn]).Cols then -1 else (ts[tn]).Cols := by
    rw [wid_leaf hi env hu (by rw [hK]; rfl)]
    unfold nodeW rawW
    rw [if_pos hK, hca]
    generalize (ts[tn]).Cols = z at *
    by_cases h : 200 < env + z
    · rw [if_pos h, if_pos (Or.inr h)]
    · rw [if_neg h, if_neg (by omega)]
  have HE0 := hide hE
  have HT := hide ((H.ht.at tn htl).2.1)
  have hgt := H.hgt
  have hq0 := hcl.1
  have hq1 := hcl.2
  clear hca hT hE hcl
  have hg := H.hg
  have l1 := H.lp
  have e0 := H.e0
  have e1 := H.e1
  have hl3 := hf.1
  have hl4 := hf.2.1
  clear H hu hf
  simp only [Nat.zero_add] at c0 c1 c2 c3 c4 c5 c6
  unfold UsedP at HD
  cases e : ps[i] with | mk K T M Ex Exs L R =>
  rw [e] at c0 c1 c2 c3 c4 c5 c6 HU HD hK hl3 hl4 htn
  simp only at c0 c1 c2 c3 c4 c5 c6 HU HD hK hl3 hl4 htn
  clear e
  generalize dB (usedP ts.length K T M Ex.length Exs.length) = B at *
  subst hK
  subst htn
  have j0 : (i : Int) < (ps.length : Int) := by omega
  obtain rfl := HD.out
  go_enter Tryd.func27, Tryd.ntmps27
  go_wp2_with fail
  refine (unhide HU _).mono ?_; rintro e w1 ⟨rfl, hb⟩
  have n1 := bT (bA (bA (bA (Below.refl w.heap.size w) _) _) _) hb
  have F := WF.of (s := w.heap.size) (g := g) (np := ps.length) (cap := cap) (gt := gt) (nt := ts.length) (capt := capt) (K := 2) (T := (tn : Int)) (M := M) (L := L) (R := R) (u3 := .slice (some ⟨b3, 0, none⟩) Ex.length Ex.length) (u4 := .slice (some ⟨b4, 0, none⟩) Exs.length Exs.length) ⟨by simp [go_sem], by simp [go_sem], by simp [go_sem], by simp [go_sem], by simp [go_sem], by simp [go_sem], by simp [go_sem], by simp [go_sem], by simp [go_sem], by simp⟩ hb
  clear hb c0 c1 c2 c3 c4 c5 c6 HU
  obtain ⟨fp, fd, f0, f1, f2, f3, f4, f5, f6, fs⟩ := id F
  go_wp2_with fail
  refine (unhide HK _).mono ?_; rintro e w2 ⟨rfl, hw⟩; obtain rfl := hw.symm
  go_wp2_with fail
  refine (unhide HK _).mono ?_; rintro e w2 ⟨rfl, hw⟩; obtain rfl := hw.symm
  have ct := (n1.cell (p := ⟨gt, 0 + tn * 3 + 1, none⟩) hgt).trans (unhide HT)
  simp only [Nat.zero_add] at ct
  have hgt1 : gt < w1.heap.size := Nat.lt_of_lt_of_le hgt n1.size
  have jt : (tn : Int) < (ts.length : Int) := by omega
  generalize (ts[tn]).Cols = z at *
  by_cases h : 200 < env + z
  · have HE := hide ((unhide HE0).trans (if_pos h))
    go_wp2
    go_ret
    exact ⟨congrArg (fun z => Ending.returned (.int .i64 z)) (unhide HE).symm, n1⟩
  · have HE := hide ((unhide HE0).trans (if_neg h))
    go_wp2
    go_ret
    exact ⟨congrArg (fun z => Ending.returned (.int .i64 z)) (unhide HE).symm, n1⟩
end Go.Proofs.YtahanplikbdccaaDoor
