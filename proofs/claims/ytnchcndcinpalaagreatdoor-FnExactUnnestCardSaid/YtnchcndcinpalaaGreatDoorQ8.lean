import Derived.Test.YtnchcndcinpalaaGreatDoorQ6
import Derived.Test.YtnchcndcinpalaaGreatDoorQ7
import Derived.BigQuiet
import Derived.Deep.RegionHeld3
namespace Go.Proofs.YtnchcndcinpalaaGreatDoor
open Go Go.RowKit
theorem wid_not {ts : List Tb} {ps : List Pn} {i : Nat} (hi : i < ps.length) (env : Int) (h : ¬ UsedP ts ps[i]) : wid ts ps i env = -1 := by
  rw [wid, List.getElem?_eq_getElem hi]
  simp only [h, not_false_eq_true, if_true]
theorem wid_leaf {ts : List Tb} {ps : List Pn} {i : Nat} (hi : i < ps.length) (env : Int) (h : UsedP ts ps[i]) (ha : arity (ps[i]).K = 0) : wid ts ps i env = nodeW ts ps[i] env 0 0 := by
  rw [wid, List.getElem?_eq_getElem hi]
  simp [h, ha]
theorem wid_one {ts : List Tb} {ps : List Pn} {i : Nat} (hi : i < ps.length) (env : Int) (h : UsedP ts ps[i]) (ha : arity (ps[i]).K = 1) {q : Nat} (hq : (ps[i]).L = (q : Int)) (hqi : q < i) :
    wid ts ps i env = if wid ts ps q env < 0 then -1 else nodeW ts ps[i] env (wid ts ps q env) 0 := by
  rw [wid, List.getElem?_eq_getElem hi]
  simp [h, ha, hq, hqi]
theorem wid_two {ts : List Tb} {ps : List Pn} {i : Nat} (hi : i < ps.length) (env : Int) (h : UsedP ts ps[i]) (ha : arity (ps[i]).K = 2) {q j : Nat} (hq : (ps[i]).L = (q : Int)) (hqi : q < i) (hj : (ps[i]).R = (j : Int)) (hji : j < i) :
    wid ts ps i env = if wid ts ps q env < 0 then -1 else if wid ts ps j (insideW (ps[i]).K env (wid ts ps q env)) < 0 then -1 else nodeW ts ps[i] env (wid ts ps q env) (wid ts ps j (insideW (ps[i]).K env (wid ts ps q env))) := by
  rw [wid, List.getElem?_eq_getElem hi]
  simp [h, ha, hq, hqi, hj, hji]
structure WF (s g np cap gt nt capt : Nat) (K T M L R : Int) (u3 u4 : Value) (W : World) : Prop where
  p : W.cell? ⟨s, 0, none⟩ = some (.slice (some ⟨g, 0, none⟩) np cap)
  d : W.cell? ⟨s + 1, 0, none⟩ = some (.slice (some ⟨gt, 0, none⟩) nt capt)
  n0 : W.cell? ⟨s + 1 + 1, 0, none⟩ = some (.int .i64 K)
  n1 : W.cell? ⟨s + 1 + 1, 1, none⟩ = some (.int .i64 T)
  n2 : W.cell? ⟨s + 1 + 1, 2, none⟩ = some (.int .i64 M)
  n3 : W.cell? ⟨s + 1 + 1, 3, none⟩ = some u3
  n4 : W.cell? ⟨s + 1 + 1, 4, none⟩ = some u4
  n5 : W.cell? ⟨s + 1 + 1, 5, none⟩ = some (.int .i64 L)
  n6 : W.cell? ⟨s + 1 + 1, 6, none⟩ = some (.int .i64 R)
  sz : s + 1 + 1 < W.heap.size
theorem WF.of {s g np cap gt nt capt : Nat} {K T M L R : Int} {u3 u4 : Value} {W W1 : World} (h : WF s g np cap gt nt capt K T M L R u3 u4 W) (hb : Below W.heap.size W W1) : WF s g np cap gt nt capt K T M L R u3 u4 W1 := by
  have hs := h.sz
  have hc : ∀ k, W1.cell? ⟨s + 1 + 1, k, none⟩ = W.cell? ⟨s + 1 + 1, k, none⟩ := fun k => hb.cell (p := ⟨s + 1 + 1, k, none⟩) hs
  exact ⟨(hb.cell (p := ⟨s, 0, none⟩) (show s < _ by omega)).trans h.p, (hb.cell (p := ⟨s + 1, 0, none⟩) (show s + 1 < _ by omega)).trans h.d, (hc 0).trans h.n0, (hc 1).trans h.n1, (hc 2).trans h.n2, (hc 3).trans h.n3, (hc 4).trans h.n4, (hc 5).trans h.n5, (hc 6).trans h.n6, Nat.lt_of_lt_of_le hs hb.size⟩
structure WHyp (ts : List Tb) (ps : List Pn) (g cap gt capt i : Nat) (env : Int) (w : World) : Prop where
  lp : ps.length ≤ 1048576
  lt : ts.length ≤ 1048576
  fit : ∀ p ∈ ps, p.Ex.length ≤ 1048576 ∧ p.Exs.length ≤ 1048576 ∧ ∀ xs ∈ p.Exs, xs.length ≤ 1048576
  cols : ∀ t ∈ ts, 0 ≤ t.Cols ∧ t.Cols ≤ 16
  e0 : 0 ≤ env
  e1 : env ≤ 200
  hg : g < w.heap.size
  hn : PnsAt w g 0 ps
  hgt : gt < w.heap.size
  ht : TablesAt w gt 0 ts
  ih : ∀ (q : Nat), q < i → frm (nds ps) q ≠ -1 → ∀ (ev : Int), 0 ≤ ev → ev ≤ 200 → ∀ W, Below w.heap.size w W →
    Calls Tryz.prog 81 #[.agg #[.slice (some ⟨g, 0, none⟩) ps.length cap], .agg #[.slice (some ⟨gt, 0, none⟩) ts.length capt], .int .i64 (q : Int), .int .i64 ev] W fun e w' => e = .returned (.int .i64 (wid ts ps q ev)) ∧ Below W.heap.size W w'
set_option maxHeartbeats 4000000 in
theorem width_not (ts : List Tb) (ps : List Pn) (g cap gt capt i : Nat) (env : Int) (w : World) (H : WHyp ts ps g cap gt capt i env w) (hi : i < ps.length) (hu : ¬ UsedP ts ps[i]) :
    Calls Tryz.prog 81 #[.agg #[.slice (some ⟨g, 0, none⟩) ps.length cap], .agg #[.slice (some ⟨gt, 0, none⟩) ts.length capt], .int .i64 (i : Int), .int .i64 env] w fun e w' => e = .returned (.int .i64 (wid ts ps i env)) ∧ Below w.heap.size w w' := by
  obtain ⟨c0, c1, c2, c5, c6, ⟨b3, c3, _, _, _⟩, b4, c4, _, _, _⟩ := H.hn.at i hi
  have HE := hide (wid_not hi env hu)
  have hf := H.fit _ (List.getElem_mem hi)
  have HU := hide (fun W => l3Used_calls ts.length (ps[i]).K (ps[i]).T (ps[i]).M (ps[i]).L (ps[i]).R (ps[i]).Ex.length (ps[i]).Exs.length (some ⟨b3, 0, none⟩) (some ⟨b4, 0, none⟩) (ps[i]).Ex.length (ps[i]).Exs.length gt capt W hf.1 hf.2.1)
  have HD : Hid (dB (UsedP ts ps[i]) = false) := dB_false hu
  have hg := H.hg
  have l1 := H.lp
  clear H hu hf
  simp only [Nat.zero_add] at c0 c1 c2 c3 c4 c5 c6
  unfold UsedP at HD
  cases e : ps[i] with | mk K T M Ex Exs L R =>
  rw [e] at c0 c1 c2 c3 c4 c5 c6 HU HD
  simp only at c0 c1 c2 c3 c4 c5 c6 HU HD
  clear e
  generalize dB (usedP ts.length K T M Ex.length Exs.length) = B at *
  generalize Ex.length = le at *
  generalize Exs.length = ls at *
  have j0 : (i : Int) < (ps.length : Int) := by omega
  obtain rfl := HD.out
  go_enter Tryz.func81, Tryz.ntmps81
  go_wp2_with fail
  refine (unhide HU _).mono ?_; rintro e w1 ⟨rfl, hb⟩
  have n1 := bT (bA (bA (bA (Below.refl w.heap.size w) _) _) _) hb
  go_wp2
  go_ret
  exact ⟨congrArg (fun z => Ending.returned (.int .i64 z)) (unhide HE).symm, n1⟩
end Go.Proofs.YtnchcndcinpalaaGreatDoor
namespace Go.Proofs.YtnchcndcinpalaaGreatDoor
open Go Go.RowKit
set_option maxHeartbeats 4000000 in
theorem width_1 (ts : List Tb) (ps : List Pn) (g cap gt capt i : Nat) (env : Int) (w : World) (H : WHyp ts ps g cap gt capt i env w) (hi : i < ps.length) (_hfr : frm (nds ps) i ≠ -1) (hu : UsedP ts ps[i]) (hK : (ps[i]).K = 1) :
    Calls Tryz.prog 81 #[.agg #[.slice (some ⟨g, 0, none⟩) ps.length cap], .agg #[.slice (some ⟨gt, 0, none⟩) ts.length capt], .int .i64 (i : Int), .int .i64 env] w fun e w' => e = .returned (.int .i64 (wid ts ps i env)) ∧ Below w.heap.size w w' := by
  obtain ⟨c0, c1, c2, c5, c6, ⟨b3, c3, _, hb3, ho3⟩, b4, c4, _, hb4, ho4⟩ := H.hn.at i hi
  have hf := H.fit _ (List.getElem_mem hi)
  have HU := hide (fun W => l3Used_calls ts.length (ps[i]).K (ps[i]).T (ps[i]).M (ps[i]).L (ps[i]).R (ps[i]).Ex.length (ps[i]).Exs.length (some ⟨b3, 0, none⟩) (some ⟨b4, 0, none⟩) (ps[i]).Ex.length (ps[i]).Exs.length gt capt W hf.1 hf.2.1)
  have HD : Hid (dB (UsedP ts ps[i]) = true) := dB_true hu
  have HK : Hid (∀ W, Calls Tryz.prog 112 #[.int .i64 1] W fun e w' => e = .returned (.int .i64 0) ∧ w' = W) := fun W => by
    have h := l3Kids_calls 1 W
    rw [show arity 1 = 0 by rfl] at h
    exact h
  have HE := hide (show wid ts ps i env = 0 by rw [wid_leaf hi env hu (by rw [hK]; rfl)]; have := H.e1; unfold nodeW rawW; simp [hK]; omega)
  have hg := H.hg
  have l1 := H.lp
  have e0 := H.e0
  have e1 := H.e1
  have hl3 := hf.1
  have hl4 := hf.2.1
  clear H hu hf
  simp only [Nat.zero_add] at c0 c1 c2 c3 c4 c5 c6
  unfold UsedP at HD
  cases e : ps[i] with | mk K T M Ex Exs L R =>
  rw [e] at c0 c1 c2 c3 c4 c5 c6 HU HD hK hl3 hl4
  simp only at c0 c1 c2 c3 c4 c5 c6 HU HD hK hl3 hl4
  clear e
  generalize dB (usedP ts.length K T M Ex.length Exs.length) = B at *
  subst hK
  have j0 : (i : Int) < (ps.length : Int) := by omega
  obtain rfl := HD.out
  go_enter Tryz.func81, Tryz.ntmps81
  go_wp2_with fail
  refine (unhide HU _).mono ?_; rintro e w1 ⟨rfl, hb⟩
  have n1 := bT (bA (bA (bA (Below.refl w.heap.size w) _) _) _) hb
  have F := WF.of (s := w.heap.size) (g := g) (np := ps.length) (cap := cap) (gt := gt) (nt := ts.length) (capt := capt) (K := 1) (T := T) (M := M) (L := L) (R := R) (u3 := .slice (some ⟨b3, 0, none⟩) Ex.length Ex.length) (u4 := .slice (some ⟨b4, 0, none⟩) Exs.length Exs.length) ⟨by simp [go_sem], by simp [go_sem], by simp [go_sem], by simp [go_sem], by simp [go_sem], by simp [go_sem], by simp [go_sem], by simp [go_sem], by simp [go_sem], by simp⟩ hb
  clear hb c0 c1 c2 c3 c4 c5 c6 HU
  obtain ⟨fp, fd, f0, f1, f2, f3, f4, f5, f6, fs⟩ := id F
  go_wp2_with fail
  refine (unhide HK _).mono ?_; rintro e w2 ⟨rfl, hw⟩; obtain rfl := hw.symm
  go_wp2_with fail
  refine (unhide HK _).mono ?_; rintro e w2 ⟨rfl, hw⟩; obtain rfl := hw.symm
  go_wp2
  go_ret
  exact ⟨congrArg (fun z => Ending.returned (.int .i64 z)) (unhide HE).symm, n1⟩
set_option maxHeartbeats 4000000 in
theorem width_2 (ts : List Tb) (ps : List Pn) (g cap gt capt i : Nat) (env : Int) (w : World) (H : WHyp ts ps g cap gt capt i env w) (hi : i < ps.length) (_hfr : frm (nds ps) i ≠ -1) (hu : UsedP ts ps[i]) (hK : (ps[i]).K = 2) :
    Calls Tryz.prog 81 #[.agg #[.slice (some ⟨g, 0, none⟩) ps.length cap], .agg #[.slice (some ⟨gt, 0, none⟩) ts.length capt], .int .i64 (i : Int), .int .i64 env] w fun e w' => e = .returned (.int .i64 (wid ts ps i env)) ∧ Below w.heap.size w w' := by
  obtain ⟨c0, c1, c2, c5, c6, ⟨b3, c3, _, hb3, ho3⟩, b4, c4, _, hb4, ho4⟩ := H.hn.at i hi
  have hf := H.fit _ (List.getElem_mem hi)
  have HU := hide (fun W => l3Used_calls ts.length (ps[i]).K (ps[i]).T (ps[i]).M (ps[i]).L (ps[i]).R (ps[i]).Ex.length (ps[i]).Exs.length (some ⟨b3, 0, none⟩) (some ⟨b4, 0, none⟩) (ps[i]).Ex.length (ps[i]).Exs.length gt capt W hf.1 hf.2.1)
  have HD : Hid (dB (UsedP ts ps[i]) = true) := dB_true hu
  have HK : Hid (∀ W, Calls Tryz.prog 112 #[.int .i64 2] W fun e w' => e = .returned (.int .i64 0) ∧ w' = W) := fun W => by
    have h := l3Kids_calls 2 W
    rw [show arity 2 = 0 by rfl] at h
    exact h
  have hT : 0 ≤ (ps[i]).T ∧ (ps[i]).T < (ts.length : Int) := hu.2.1 hK
  obtain ⟨tn, htn⟩ : ∃ tn : Nat, (ps[i]).T = (tn : Int) := ⟨(ps[i]).T.toNat, by omega⟩
  have htl : tn < ts.length := by omega
  have hcl := H.cols _ (List.getElem_mem htl)
  have hca : colsAt ts (ps[i]).T = (ts[tn]).Cols := by rw [htn]; unfold colsAt; simp [htl]
  have hE : wid ts ps i env = if 200 < env + (ts[tn]).Cols then -1 else (ts[tn]).Cols := by
    rw [wid_leaf hi env hu (by rw [hK]; rfl)]
    unfold nodeW rawW
    rw [if_pos hK, hca]
    generalize (ts[tn]).Cols = z at *
    by_cases h : 200 < env + z
    · rw [if_pos h, if_pos (Or.inr h)]
    · rw [if_neg h, if_neg (by omega)]
  have HE0 := hide hE
  have HT := hide ((H.ht.at tn htl).2.1)
  have hgt := H.hgt
  have hq0 := hcl.1
  have hq1 := hcl.2
  clear hca hT hE hcl
  have hg := H.hg
  have l1 := H.lp
  have e0 := H.e0
  have e1 := H.e1
  have hl3 := hf.1
  have hl4 := hf.2.1
  clear H hu hf
  simp only [Nat.zero_add] at c0 c1 c2 c3 c4 c5 c6
  unfold UsedP at HD
  cases e : ps[i] with | mk K T M Ex Exs L R =>
  rw [e] at c0 c1 c2 c3 c4 c5 c6 HU HD hK hl3 hl4 htn
  simp only at c0 c1 c2 c3 c4 c5 c6 HU HD hK hl3 hl4 htn
  clear e
  generalize dB (usedP ts.length K T M Ex.length Exs.length) = B at *
  subst hK
  subst htn
  have j0 : (i : Int) < (ps.length : Int) := by omega
  obtain rfl := HD.out
  go_enter Tryz.func81, Tryz.ntmps81
  go_wp2_with fail
  refine (unhide HU _).mono ?_; rintro e w1 ⟨rfl, hb⟩
  have n1 := bT (bA (bA (bA (Below.refl w.heap.size w) _) _) _) hb
  have F := WF.of (s := w.heap.size) (g := g) (np := ps.length) (cap := cap) (gt := gt) (nt := ts.length) (capt := capt) (K := 2) (T := (tn : Int)) (M := M) (L := L) (R := R) (u3 := .slice (some ⟨b3, 0, none⟩) Ex.length Ex.length) (u4 := .slice (some ⟨b4, 0, none⟩) Exs.length Exs.length) ⟨by simp [go_sem], by simp [go_sem], by simp [go_sem], by simp [go_sem], by simp [go_sem], by simp [go_sem], by simp [go_sem], by simp [go_sem], by simp [go_sem], by simp⟩ hb
  clear hb c0 c1 c2 c3 c4 c5 c6 HU
  obtain ⟨fp, fd, f0, f1, f2, f3, f4, f5, f6, fs⟩ := id F
  go_wp2_with fail
  refine (unhide HK _).mono ?_; rintro e w2 ⟨rfl, hw⟩; obtain rfl := hw.symm
  go_wp2_with fail
  refine (unhide HK _).mono ?_; rintro e w2 ⟨rfl, hw⟩; obtain rfl := hw.symm
  have ct := (n1.cell (p := ⟨gt, 0 + tn * 3 + 1, none⟩) hgt).trans (unhide HT)
  simp only [Nat.zero_add] at ct
  have hgt1 : gt < w1.heap.size := Nat.lt_of_lt_of_le hgt n1.size
  have jt : (tn : Int) < (ts.length : Int) := by omega
  generalize (ts[tn]).Cols = z at *
  by_cases h : 200 < env + z
  · have HE := hide ((unhide HE0).trans (if_pos h))
    go_wp2
    go_ret
    exact ⟨congrArg (fun z => Ending.returned (.int .i64 z)) (unhide HE).symm, n1⟩
  · have HE := hide ((unhide HE0).trans (if_neg h))
    go_wp2
    go_ret
    exact ⟨congrArg (fun z => Ending.returned (.int .i64 z)) (unhide HE).symm, n1⟩
end Go.Proofs.YtnchcndcinpalaaGreatDoor
namespace Go.Proofs.YtnchcndcinpalaaGreatDoor
open Go Go.RowKit
set_option maxHeartbeats 4000000 in
theorem width_9 (ts : List Tb) (ps : List Pn) (g cap gt capt i : Nat) (env : Int) (w : World) (H : WHyp ts ps g cap gt capt i env w) (hi : i < ps.length) (hfr : frm (nds ps) i ≠ -1) (hu : UsedP ts ps[i]) (hK : (ps[i]).K = 9) :
    Calls Tryz.prog 81 #[.agg #[.slice (some ⟨g, 0, none⟩) ps.length cap], .agg #[.slice (some ⟨gt, 0, none⟩) ts.length capt], .int .i64 (i : Int), .int .i64 env] w fun e w' => e = .returned (.int .i64 (wid ts ps i env)) ∧ Below w.heap.size w w' := by
  obtain ⟨c0, c1, c2, c5, c6, ⟨b3, c3, _, hb3, ho3⟩, b4, c4, _, hb4, ho4⟩ := H.hn.at i hi
  have hf := H.fit _ (List.getElem_mem hi)
  have HU := hide (fun W => l3Used_calls ts.length (ps[i]).K (ps[i]).T (ps[i]).M (ps[i]).L (ps[i]).R (ps[i]).Ex.length (ps[i]).Exs.length (some ⟨b3, 0, none⟩) (some ⟨b4, 0, none⟩) (ps[i]).Ex.length (ps[i]).Exs.length gt capt W hf.1 hf.2.1)
  have HD : Hid (dB (UsedP ts ps[i]) = true) := dB_true hu
  have HK : Hid (∀ W, Calls Tryz.prog 112 #[.int .i64 9] W fun e w' => e = .returned (.int .i64 1) ∧ w' = W) := fun W => by
    have h := l3Kids_calls 9 W
    rw [show arity 9 = 1 by rfl] at h
    exact h
  obtain ⟨q, hq, hL, hR, hfq⟩ := kid_one hi hfr (by rw [hK]; rfl)
  have hwr := wid_range ts ps q env
  have HO := hide (wid_one hi env hu (by rw [hK]; rfl) hL hq)
  have HI := hide (fun W hb => H.ih q hq hfq env H.e0 H.e1 W hb)
  have hE : wid ts ps i env = wid ts ps q env := by
    rw [unhide HO]
    split
    · omega
    · have := hwr.2 (by omega)
      unfold nodeW rawW
      simp [hK]
      omega
  have HE := hide hE
  clear hE HO
  have hg := H.hg
  have l1 := H.lp
  have e0 := H.e0
  have e1 := H.e1
  have hl3 := hf.1
  have hl4 := hf.2.1
  clear H hu hf hfr
  simp only [Nat.zero_add] at c0 c1 c2 c3 c4 c5 c6
  unfold UsedP at HD
  cases e : ps[i] with | mk K T M Ex Exs L R =>
  rw [e] at c0 c1 c2 c3 c4 c5 c6 HU HD hK hl3 hl4 hL
  simp only at c0 c1 c2 c3 c4 c5 c6 HU HD hK hl3 hl4 hL
  clear e
  generalize dB (usedP ts.length K T M Ex.length Exs.length) = B at *
  subst hK
  subst hL
  have j0 : (i : Int) < (ps.length : Int) := by omega
  obtain rfl := HD.out
  go_enter Tryz.func81, Tryz.ntmps81
  go_wp2_with fail
  refine (unhide HU _).mono ?_; rintro e w1 ⟨rfl, hb⟩
  have n1 := bT (bA (bA (bA (Below.refl w.heap.size w) _) _) _) hb
  have F := WF.of (s := w.heap.size) (g := g) (np := ps.length) (cap := cap) (gt := gt) (nt := ts.length) (capt := capt) (K := 9) (T := T) (M := M) (L := (q : Int)) (R := R) (u3 := .slice (some ⟨b3, 0, none⟩) Ex.length Ex.length) (u4 := .slice (some ⟨b4, 0, none⟩) Exs.length Exs.length) ⟨by simp [go_sem], by simp [go_sem], by simp [go_sem], by simp [go_sem], by simp [go_sem], by simp [go_sem], by simp [go_sem], by simp [go_sem], by simp [go_sem], by simp⟩ hb
  clear hb c0 c1 c2 c3 c4 c5 c6 HU
  obtain ⟨fp, fd, f0, f1, f2, f3, f4, f5, f6, fs⟩ := id F
  generalize wid ts ps q env = z at *
  have z0 := hwr.1
  have z1 := hwr.2
  by_cases h : z < 0
  · have hz : z = -1 := by omega
    clear z1 hwr
    subst hz
    go_wp2_with fail
    refine (unhide HK _).mono ?_; rintro e w2 ⟨rfl, hw⟩; obtain rfl := hw.symm
    go_wp2_with fail
    refine (unhide HI _ n1).mono ?_; rintro e w3 ⟨rfl, hb⟩
    have n3 := bT n1 hb
    have F3 := F.of hb
    clear hb fp fd f0 f1 f2 f3 f4 f5 f6 fs
    obtain ⟨fp, fd, f0, f1, f2, f3, f4, f5, f6, fs⟩ := id F3
    go_wp2
    go_ret
    exact ⟨congrArg (fun z => Ending.returned (.int .i64 z)) (unhide HE).symm, n3⟩
  · have z2 := z1 (by omega)
    have h0 : 0 ≤ z := by omega
    clear z1 hwr
    go_wp2_with fail
    refine (unhide HK _).mono ?_; rintro e w2 ⟨rfl, hw⟩; obtain rfl := hw.symm
    go_wp2_with fail
    refine (unhide HI _ n1).mono ?_; rintro e w3 ⟨rfl, hb⟩
    have n3 := bT n1 hb
    have F3 := F.of hb
    clear hb fp fd f0 f1 f2 f3 f4 f5 f6 fs
    obtain ⟨fp, fd, f0, f1, f2, f3, f4, f5, f6, fs⟩ := id F3
    go_wp2_with fail
    refine (unhide HK _).mono ?_; rintro e w2 ⟨rfl, hw⟩; obtain rfl := hw.symm
    go_wp2
    go_ret
    exact ⟨congrArg (fun z => Ending.returned (.int .i64 z)) (unhide HE).symm, n3⟩
set_option maxHeartbeats 4000000 in
theorem width_3 (ts : List Tb) (ps : List Pn) (g cap gt capt i : Nat) (env : Int) (w : World) (H : WHyp ts ps g cap gt capt i env w) (hi : i < ps.length) (hfr : frm (nds ps) i ≠ -1) (hu : UsedP ts ps[i]) (hK : (ps[i]).K = 3) :
    Calls Tryz.prog 81 #[.agg #[.slice (some ⟨g, 0, none⟩) ps.length cap], .agg #[.slice (some ⟨gt, 0, none⟩) ts.length capt], .int .i64 (i : Int), .int .i64 env] w fun e w' => e = .returned (.int .i64 (wid ts ps i env)) ∧ Below w.heap.size w w' := by
  obtain ⟨c0, c1, c2, c5, c6, ⟨b3, c3, _, hb3, ho3⟩, b4, c4, _, hb4, ho4⟩ := H.hn.at i hi
  have hf := H.fit _ (List.getElem_mem hi)
  have HU := hide (fun W => l3Used_calls ts.length (ps[i]).K (ps[i]).T (ps[i]).M (ps[i]).L (ps[i]).R (ps[i]).Ex.length (ps[i]).Exs.length (some ⟨b3, 0, none⟩) (some ⟨b4, 0, none⟩) (ps[i]).Ex.length (ps[i]).Exs.length gt capt W hf.1 hf.2.1)
  have HD : Hid (dB (UsedP ts ps[i]) = true) := dB_true hu
  have HK : Hid (∀ W, Calls Tryz.prog 112 #[.int .i64 3] W fun e w' => e = .returned (.int .i64 1) ∧ w' = W) := fun W => by
    have h := l3Kids_calls 3 W
    rw [show arity 3 = 1 by rfl] at h
    exact h
  obtain ⟨q, hq, hL, hR, hfq⟩ := kid_one hi hfr (by rw [hK]; rfl)
  have hwr := wid_range ts ps q env
  have HO := hide (wid_one hi env hu (by rw [hK]; rfl) hL hq)
  have HI := hide (fun W hb => H.ih q hq hfq env H.e0 H.e1 W hb)
  have HX := hide (fun X W (hb : Below w.heap.size w W) => sExOk_calls (ps[i]).Ex b3 0 (ps[i]).Ex.length X W (Nat.lt_of_lt_of_le hb3 hb.size) (ho3.of hb3 hb) hf.1)
  have hE : wid ts ps i env = if wid ts ps q env < 0 then -1 else if exOk (env + wid ts ps q env) (ps[i]).Ex = true then wid ts ps q env else -1 := by
    rw [unhide HO]
    by_cases hz : wid ts ps q env < 0
    · rw [if_pos hz, if_pos hz]
    · have := hwr.2 (by omega)
      rw [if_neg hz, if_neg hz]
      have hr : rawW ts ps[i] env (wid ts ps q env) 0 = if exOk (env + wid ts ps q env) (ps[i]).Ex = true then wid ts ps q env else -1 := by
        unfold rawW
        rw [if_neg (show ¬ (ps[i]).K = 2 by omega), if_pos hK]
      unfold nodeW
      rw [hr]
      by_cases hx : exOk (env + wid ts ps q env) (ps[i]).Ex = true
      · rw [if_pos hx, if_neg (by omega)]
      · rw [if_neg hx, if_pos (by omega)]
  have HE0 := hide hE
  clear hE HO
  have hg := H.hg
  have l1 := H.lp
  have e0 := H.e0
  have e1 := H.e1
  have hl3 := hf.1
  have hl4 := hf.2.1
  clear H hu hf hfr
  simp only [Nat.zero_add] at c0 c1 c2 c3 c4 c5 c6
  unfold UsedP at HD
  cases e : ps[i] with | mk K T M Ex Exs L R =>
  rw [e] at c0 c1 c2 c3 c4 c5 c6 HU HD hK hl3 hl4 hL HX HE0
  simp only at c0 c1 c2 c3 c4 c5 c6 HU HD hK hl3 hl4 hL HX HE0
  clear e
  generalize dB (usedP ts.length K T M Ex.length Exs.length) = B at *
  subst hK
  subst hL
  have j0 : (i : Int) < (ps.length : Int) := by omega
  obtain rfl := HD.out
  go_enter Tryz.func81, Tryz.ntmps81
  go_wp2_with fail
  refine (unhide HU _).mono ?_; rintro e w1 ⟨rfl, hb⟩
  have n1 := bT (bA (bA (bA (Below.refl w.heap.size w) _) _) _) hb
  have F := WF.of (s := w.heap.size) (g := g) (np := ps.length) (cap := cap) (gt := gt) (nt := ts.length) (capt := capt) (K := 3) (T := T) (M := M) (L := (q : Int)) (R := R) (u3 := .slice (some ⟨b3, 0, none⟩) Ex.length Ex.length) (u4 := .slice (some ⟨b4, 0, none⟩) Exs.length Exs.length) ⟨by simp [go_sem], by simp [go_sem], by simp [go_sem], by simp [go_sem], by simp [go_sem], by simp [go_sem], by simp [go_sem], by simp [go_sem], by simp [go_sem], by simp⟩ hb
  clear hb c0 c1 c2 c3 c4 c5 c6 HU
  obtain ⟨fp, fd, f0, f1, f2, f3, f4, f5, f6, fs⟩ := id F
  generalize wid ts ps q env = z at *
  have z0 := hwr.1
  have z1 := hwr.2
  by_cases h : z < 0
  · have HE := hide ((unhide HE0).trans (if_pos h))
    have hz : z = -1 := by omega
    clear z1 hwr
    subst hz
    go_wp2_with fail
    refine (unhide HK _).mono ?_; rintro e w2 ⟨rfl, hw⟩; obtain rfl := hw.symm
    go_wp2_with fail
    refine (unhide HI _ n1).mono ?_; rintro e w3 ⟨rfl, hb⟩
    have n3 := bT n1 hb
    have F3 := F.of hb
    clear hb fp fd f0 f1 f2 f3 f4 f5 f6 fs
    obtain ⟨fp, fd, f0, f1, f2, f3, f4, f5, f6, fs⟩ := id F3
    go_wp2
    go_ret
    exact ⟨congrArg (fun z => Ending.returned (.int .i64 z)) (unhide HE).symm, n3⟩
  · have z2 := z1 (by omega)
    have h0 : 0 ≤ z := by omega
    clear z1 hwr
    have HX1 := hide (unhide HX (env + z))
    have HE1 := hide ((unhide HE0).trans (if_neg h))
    generalize exOk (env + z) Ex = B at *
    clear HX HE0
    go_wp2_with fail
    refine (unhide HK _).mono ?_; rintro e w2 ⟨rfl, hw⟩; obtain rfl := hw.symm
    go_wp2_with fail
    refine (unhide HI _ n1).mono ?_; rintro e w3 ⟨rfl, hb⟩
    have n3 := bT n1 hb
    have F3 := F.of hb
    clear hb fp fd f0 f1 f2 f3 f4 f5 f6 fs
    obtain ⟨fp, fd, f0, f1, f2, f3, f4, f5, f6, fs⟩ := id F3
    go_wp2_with fail
    refine (unhide HK _).mono ?_; rintro e w2 ⟨rfl, hw⟩; obtain rfl := hw.symm
    go_wp2_with fail
    refine (unhide HX1 _ n3).mono ?_; rintro e w4 ⟨rfl, hb⟩
    have n4 := bT n3 hb
    have F4 := F3.of hb
    clear hb fp fd f0 f1 f2 f3 f4 f5 f6 fs
    obtain ⟨fp, fd, f0, f1, f2, f3, f4, f5, f6, fs⟩ := id F4
    cases B
    · have HE := hide ((unhide HE1).trans (if_neg (by simp)))
      go_wp2
      go_ret
      exact ⟨congrArg (fun z => Ending.returned (.int .i64 z)) (unhide HE).symm, n4⟩
    · have HE := hide ((unhide HE1).trans (if_pos rfl))
      go_wp2
      go_ret
      exact ⟨congrArg (fun z => Ending.returned (.int .i64 z)) (unhide HE).symm, n4⟩
end Go.Proofs.YtnchcndcinpalaaGreatDoor
namespace Go.Proofs.YtnchcndcinpalaaGreatDoor
open Go Go.RowKit
set_option maxHeartbeats 4000000 in
theorem width_5 (ts : List Tb) (ps : List Pn) (g cap gt capt i : Nat) (env : Int) (w : World) (H : WHyp ts ps g cap gt capt i env w) (hi : i < ps.length) (hfr : frm (nds ps) i ≠ -1) (hu : UsedP ts ps[i]) (hK : (ps[i]).K = 5) :
    Calls Tryz.prog 81 #[.agg #[.slice (some ⟨g, 0, none⟩) ps.length cap], .agg #[.slice (some ⟨gt, 0, none⟩) ts.length capt], .int .i64 (i : Int), .int .i64 env] w fun e w' => e = .returned (.int .i64 (wid ts ps i env)) ∧ Below w.heap.size w w' := by
  obtain ⟨c0, c1, c2, c5, c6, ⟨b3, c3, _, hb3, ho3⟩, b4, c4, _, hb4, ho4⟩ := H.hn.at i hi
  have hf := H.fit _ (List.getElem_mem hi)
  have HU := hide (fun W => l3Used_calls ts.length (ps[i]).K (ps[i]).T (ps[i]).M (ps[i]).L (ps[i]).R (ps[i]).Ex.length (ps[i]).Exs.length (some ⟨b3, 0, none⟩) (some ⟨b4, 0, none⟩) (ps[i]).Ex.length (ps[i]).Exs.length gt capt W hf.1 hf.2.1)
  have HD : Hid (dB (UsedP ts ps[i]) = true) := dB_true hu
  have HK : Hid (∀ W, Calls Tryz.prog 112 #[.int .i64 5] W fun e w' => e = .returned (.int .i64 2) ∧ w' = W) := fun W => by
    have h := l3Kids_calls 5 W
    rw [show arity 5 = 2 by rfl] at h
    exact h
  obtain ⟨q, j, hq, hj, hL, hR, hfq, hfj⟩ := kid_two hi hfr (by rw [hK]; rfl)
  have hwr := wid_range ts ps q env
  have HO := hide (wid_two hi env hu (by rw [hK]; rfl) hL hq hR hj)
  have HI := hide (fun W hb => H.ih q hq hfq env H.e0 H.e1 W hb)
  have HJ := hide (fun ev h0 h1 W hb => H.ih j hj hfj ev h0 h1 W hb)
  have hin : insideW (ps[i]).K env (wid ts ps q env) = env := by rw [hK]; simp [insideW]
  have hE : wid ts ps i env = if wid ts ps q env < 0 then -1 else if wid ts ps j (env) < 0 then -1 else if 200 < env + ((wid ts ps q env) + (wid ts ps j (env))) then -1 else (wid ts ps q env) + (wid ts ps j (env)) := by
    rw [unhide HO, hin]
    have hr2 := wid_range ts ps j (env)
    have he0 := H.e0
    by_cases hz : wid ts ps q env < 0
    · rw [if_pos hz, if_pos hz]
    by_cases hr : wid ts ps j (env) < 0
    · rw [if_neg hz, if_neg hz, if_pos hr, if_pos hr]
    rw [if_neg hz, if_neg hz, if_neg hr, if_neg hr]
    have hz2 := hwr.2 (by omega)
    have hraw : rawW ts ps[i] env (wid ts ps q env) (wid ts ps j (env)) = (wid ts ps q env) + (wid ts ps j (env)) := by unfold rawW; simp [hK]
    unfold nodeW
    rw [hraw]
    generalize wid ts ps j (env) = r at *
    generalize wid ts ps q env = z at *
    by_cases h : 200 < env + (z + r)
    · rw [if_pos h, if_pos (Or.inr h)]
    · rw [if_neg h, if_neg (by omega)]
  have HE0 := hide hE
  clear hE HO hin
  have hg := H.hg
  have l1 := H.lp
  have e0 := H.e0
  have e1 := H.e1
  have hl3 := hf.1
  have hl4 := hf.2.1
  clear H hu hf hfr
  simp only [Nat.zero_add] at c0 c1 c2 c3 c4 c5 c6
  unfold UsedP at HD
  cases e : ps[i] with | mk K T M Ex Exs L R =>
  rw [e] at c0 c1 c2 c3 c4 c5 c6 HU HD hK hl3 hl4 hL hR
  simp only at c0 c1 c2 c3 c4 c5 c6 HU HD hK hl3 hl4 hL hR
  clear e
  generalize dB (usedP ts.length K T M Ex.length Exs.length) = B at *
  subst hK
  subst hL
  subst hR
  have j0 : (i : Int) < (ps.length : Int) := by omega
  obtain rfl := HD.out
  go_enter Tryz.func81, Tryz.ntmps81
  go_wp2_with fail
  refine (unhide HU _).mono ?_; rintro e w1 ⟨rfl, hb⟩
  have n1 := bT (bA (bA (bA (Below.refl w.heap.size w) _) _) _) hb
  have F := WF.of (s := w.heap.size) (g := g) (np := ps.length) (cap := cap) (gt := gt) (nt := ts.length) (capt := capt) (K := 5) (T := T) (M := M) (L := (q : Int)) (R := (j : Int)) (u3 := .slice (some ⟨b3, 0, none⟩) Ex.length Ex.length) (u4 := .slice (some ⟨b4, 0, none⟩) Exs.length Exs.length) ⟨by simp [go_sem], by simp [go_sem], by simp [go_sem], by simp [go_sem], by simp [go_sem], by simp [go_sem], by simp [go_sem], by simp [go_sem], by simp [go_sem], by simp⟩ hb
  clear hb c0 c1 c2 c3 c4 c5 c6 HU
  obtain ⟨fp, fd, f0, f1, f2, f3, f4, f5, f6, fs⟩ := id F
  generalize wid ts ps q env = z at *
  have z0 := hwr.1
  have z1 := hwr.2
  by_cases h : z < 0
  · have HE := hide ((unhide HE0).trans (if_pos h))
    have hz : z = -1 := by omega
    clear z1 hwr HE0 HJ
    subst hz
    go_wp2_with fail
    refine (unhide HK _).mono ?_; rintro e w2 ⟨rfl, hw⟩; obtain rfl := hw.symm
    go_wp2_with fail
    refine (unhide HI _ n1).mono ?_; rintro e w3 ⟨rfl, hb⟩
    have n3 := bT n1 hb
    have F3 := F.of hb
    clear hb fp fd f0 f1 f2 f3 f4 f5 f6 fs
    obtain ⟨fp, fd, f0, f1, f2, f3, f4, f5, f6, fs⟩ := id F3
    go_wp2
    go_ret
    exact ⟨congrArg (fun z => Ending.returned (.int .i64 z)) (unhide HE).symm, n3⟩
  · have z2 := z1 (by omega)
    have h0 : 0 ≤ z := by omega
    clear z1 hwr
    have HJ1 := hide (fun W hb => unhide HJ (env) (by omega) (by omega) W hb)
    have hr2 := wid_range ts ps j (env)
    have HE1 := hide ((unhide HE0).trans (if_neg h))
    clear HJ HE0
    generalize wid ts ps j (env) = r at *
    have r0 := hr2.1
    have r1 := hr2.2
    clear hr2
    have RI : Hid (∀ W, Calls Tryz.prog 114 #[.int .i64 5, .int .i64 env, .int .i64 z] W fun e w' => e = .returned (.int .i64 (env)) ∧ Below W.heap.size W w') := fun W => (l3Inside_calls 5 env z W (by omega) (by omega) (by omega) (by omega)).mono (by
      rintro e w' ⟨rfl, hw⟩
      obtain rfl := hw.symm
      exact ⟨congrArg (fun z => Ending.returned (.int .i64 z)) (by simp [insideW]), Below.refl _ _⟩)
    go_wp2_with fail
    refine (unhide HK _).mono ?_; rintro e w2 ⟨rfl, hw⟩; obtain rfl := hw.symm
    go_wp2_with fail
    refine (unhide HI _ n1).mono ?_; rintro e w3 ⟨rfl, hb⟩
    have n3 := bT n1 hb
    have F3 := F.of hb
    clear hb fp fd f0 f1 f2 f3 f4 f5 f6 fs
    obtain ⟨fp, fd, f0, f1, f2, f3, f4, f5, f6, fs⟩ := id F3
    go_wp2_with fail
    refine (unhide HK _).mono ?_; rintro e w2 ⟨rfl, hw⟩; obtain rfl := hw.symm
    have RW : Hid (∀ W, Std w3 W → Calls Tryz.prog 81 #[.agg #[.slice (some ⟨g, 0, none⟩) ps.length cap], .agg #[.slice (some ⟨gt, 0, none⟩) ts.length capt], .int .i64 (j : Int), .int .i64 (env)] W fun e w' => e = .returned (.int .i64 r) ∧ Below W.heap.size W w') := fun W h => unhide HJ1 W (bT n3 h.2.2)
    have t0 : w.heap.size < w3.heap.size := by omega
    have t1 : w.heap.size + 1 < w3.heap.size := by omega
    go_upto_region 11 with fail
    go_region_held3 (Std w3) (repeat (first | with_reducible assumption | with_reducible exact Std.refl _ | with_reducible refine Std.drew ?_ | with_reducible refine Std.alloc ?_ _ | with_reducible refine Std.setCell ?_ ?_ _ | with_reducible refine Std.call ?_ (by with_reducible assumption) | (simp <;> omega) | omega)) (first
      | (go_at_call 114; refine (unhide RI _).mono ?_; rintro e w6 ⟨rfl, hb6⟩)
      | (go_at_call 81; refine (unhide RW _ (by assumption)).mono ?_; rintro e w7 ⟨rfl, hb7⟩))
    have hS : Std w3 w7 := by assumption
    have n7 := bT n3 hS.2.2
    have F7 := F3.of hS.2.2
    clear hS fp fd f0 f1 f2 f3 f4 f5 f6 fs RI RW HI HK hb7
    (try clear hb6)
    obtain ⟨fp, fd, f0, f1, f2, f3, f4, f5, f6, fs⟩ := id F7
    by_cases hr : r < 0
    · have HE := hide ((unhide HE1).trans (if_pos hr))
      go_wp2
      go_ret
      exact ⟨congrArg (fun z => Ending.returned (.int .i64 z)) (unhide HE).symm, n7⟩
    · have HE2 := hide ((unhide HE1).trans (if_neg hr))
      clear HE1
      have r2 := r1 (by omega)
      have r3 : 0 ≤ r := by omega
      clear r1
      by_cases hx : 200 < env + (z + r)
      · have HE := hide ((unhide HE2).trans (if_pos hx))
        go_wp2
        go_ret
        exact ⟨congrArg (fun z => Ending.returned (.int .i64 z)) (unhide HE).symm, n7⟩
      · have HE := hide ((unhide HE2).trans (if_neg hx))
        go_wp2
        go_ret
        exact ⟨congrArg (fun z => Ending.returned (.int .i64 z)) (unhide HE).symm, n7⟩
end Go.Proofs.YtnchcndcinpalaaGreatDoor
