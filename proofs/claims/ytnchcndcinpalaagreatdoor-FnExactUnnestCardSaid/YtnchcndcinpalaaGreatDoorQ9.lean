import Derived.Test.YtnchcndcinpalaaGreatDoorQ8
import Derived.BigQuiet
import Derived.Deep.RegionHeld3
namespace Go.Proofs.YtnchcndcinpalaaGreatDoor
open Go Go.RowKit
set_option maxHeartbeats 4000000 in
theorem width_6 (ts : List Tb) (ps : List Pn) (g cap gt capt i : Nat) (env : Int) (w : World) (H : WHyp ts ps g cap gt capt i env w) (hi : i < ps.length) (hfr : frm (nds ps) i ≠ -1) (hu : UsedP ts ps[i]) (hK : (ps[i]).K = 6) :
    Calls Tryz.prog 81 #[.agg #[.slice (some ⟨g, 0, none⟩) ps.length cap], .agg #[.slice (some ⟨gt, 0, none⟩) ts.length capt], .int .i64 (i : Int), .int .i64 env] w fun e w' => e = .returned (.int .i64 (wid ts ps i env)) ∧ Below w.heap.size w w' := by
  obtain ⟨c0, c1, c2, c5, c6, ⟨b3, c3, _, hb3, ho3⟩, b4, c4, _, hb4, ho4⟩ := H.hn.at i hi
  have hf := H.fit _ (List.getElem_mem hi)
  have HU := hide (fun W => l3Used_calls ts.length (ps[i]).K (ps[i]).T (ps[i]).M (ps[i]).L (ps[i]).R (ps[i]).Ex.length (ps[i]).Exs.length (some ⟨b3, 0, none⟩) (some ⟨b4, 0, none⟩) (ps[i]).Ex.length (ps[i]).Exs.length gt capt W hf.1 hf.2.1)
  have HD : Hid (dB (UsedP ts ps[i]) = true) := dB_true hu
  have HK : Hid (∀ W, Calls Tryz.prog 112 #[.int .i64 6] W fun e w' => e = .returned (.int .i64 2) ∧ w' = W) := fun W => by
    have h := l3Kids_calls 6 W
    rw [show arity 6 = 2 by rfl] at h
    exact h
  obtain ⟨q, j, hq, hj, hL, hR, hfq, hfj⟩ := kid_two hi hfr (by rw [hK]; rfl)
  have hwr := wid_range ts ps q env
  have HO := hide (wid_two hi env hu (by rw [hK]; rfl) hL hq hR hj)
  have HI := hide (fun W hb => H.ih q hq hfq env H.e0 H.e1 W hb)
  have HJ := hide (fun ev h0 h1 W hb => H.ih j hj hfj ev h0 h1 W hb)
  have hin : insideW (ps[i]).K env (wid ts ps q env) = env + wid ts ps q env := by rw [hK]; simp [insideW]
  have hE : wid ts ps i env = if wid ts ps q env < 0 then -1 else if wid ts ps j (env + wid ts ps q env) < 0 then -1 else if 200 < env + ((wid ts ps q env) + (wid ts ps j (env + wid ts ps q env))) then -1 else (wid ts ps q env) + (wid ts ps j (env + wid ts ps q env)) := by
    rw [unhide HO, hin]
    have hr2 := wid_range ts ps j (env + wid ts ps q env)
    have he0 := H.e0
    by_cases hz : wid ts ps q env < 0
    · rw [if_pos hz, if_pos hz]
    by_cases hr : wid ts ps j (env + wid ts ps q env) < 0
    · rw [if_neg hz, if_neg hz, if_pos hr, if_pos hr]
    rw [if_neg hz, if_neg hz, if_neg hr, if_neg hr]
    have hz2 := hwr.2 (by omega)
    have hraw : rawW ts ps[i] env (wid ts ps q env) (wid ts ps j (env + wid ts ps q env)) = (wid ts ps q env) + (wid ts ps j (env + wid ts ps q env)) := by unfold rawW; simp [hK]
    unfold nodeW
    rw [hraw]
    generalize wid ts ps j (env + wid ts ps q env) = r at *
    generalize wid ts ps q env = z at *
    by_cases h : 200 < env + (z + r)
    · rw [if_pos h, if_pos (Or.inr h)]
    · rw [if_neg h, if_neg (by omega)]
  have HE0 := hide hE
  clear hE HO hin
  have hg := H.hg
  have l1 := H.lp
  have e0 := H.e0
  have e1 := H.e1
  have hl3 := hf.1
  have hl4 := hf.2.1
  clear H hu hf hfr
  simp only [Nat.zero_add] at c0 c1 c2 c3 c4 c5 c6
  unfold UsedP at HD
  cases e : ps[i] with | mk K T M Ex Exs L R =>
  rw [e] at c0 c1 c2 c3 c4 c5 c6 HU HD hK hl3 hl4 hL hR
  simp only at c0 c1 c2 c3 c4 c5 c6 HU HD hK hl3 hl4 hL hR
  clear e
  generalize dB (usedP ts.length K T M Ex.length Exs.length) = B at *
  subst hK
  subst hL
  subst hR
  have j0 : (i : Int) < (ps.length : Int) := by omega
  obtain rfl := HD.out
  go_enter Tryz.func81, Tryz.ntmps81
  go_wp2_with fail
  refine (unhide HU _).mono ?_; rintro e w1 ⟨rfl, hb⟩
  have n1 := bT (bA (bA (bA (Below.refl w.heap.size w) _) _) _) hb
  have F := WF.of (s := w.heap.size) (g := g) (np := ps.length) (cap := cap) (gt := gt) (nt := ts.length) (capt := capt) (K := 6) (T := T) (M := M) (L := (q : Int)) (R := (j : Int)) (u3 := .slice (some ⟨b3, 0, none⟩) Ex.length Ex.length) (u4 := .slice (some ⟨b4, 0, none⟩) Exs.length Exs.length) ⟨by simp [go_sem], by simp [go_sem], by simp [go_sem], by simp [go_sem], by simp [go_sem], by simp [go_sem], by simp [go_sem], by simp [go_sem], by simp [go_sem], by simp⟩ hb
  clear hb c0 c1 c2 c3 c4 c5 c6 HU
  obtain ⟨fp, fd, f0, f1, f2, f3, f4, f5, f6, fs⟩ := id F
  generalize wid ts ps q env = z at *
  have z0 := hwr.1
  have z1 := hwr.2
  by_cases h : z < 0
  · have HE := hide ((unhide HE0).trans (if_pos h))
    have hz : z = -1 := by omega
    clear z1 hwr HE0 HJ
    subst hz
    go_wp2_with fail
    refine (unhide HK _).mono ?_; rintro e w2 ⟨rfl, hw⟩; obtain rfl := hw.symm
    go_wp2_with fail
    refine (unhide HI _ n1).mono ?_; rintro e w3 ⟨rfl, hb⟩
    have n3 := bT n1 hb
    have F3 := F.of hb
    clear hb fp fd f0 f1 f2 f3 f4 f5 f6 fs
    obtain ⟨fp, fd, f0, f1, f2, f3, f4, f5, f6, fs⟩ := id F3
    go_wp2
    go_ret
    exact ⟨congrArg (fun z => Ending.returned (.int .i64 z)) (unhide HE).symm, n3⟩
  · have z2 := z1 (by omega)
    have h0 : 0 ≤ z := by omega
    clear z1 hwr
    have HJ1 := hide (fun W hb => unhide HJ (env + z) (by omega) (by omega) W hb)
    have hr2 := wid_range ts ps j (env + z)
    have HE1 := hide ((unhide HE0).trans (if_neg h))
    clear HJ HE0
    generalize wid ts ps j (env + z) = r at *
    have r0 := hr2.1
    have r1 := hr2.2
    clear hr2
    have RI : Hid (∀ W, Calls Tryz.prog 114 #[.int .i64 6, .int .i64 env, .int .i64 z] W fun e w' => e = .returned (.int .i64 (env + z)) ∧ Below W.heap.size W w') := fun W => (l3Inside_calls 6 env z W (by omega) (by omega) (by omega) (by omega)).mono (by
      rintro e w' ⟨rfl, hw⟩
      obtain rfl := hw.symm
      exact ⟨congrArg (fun z => Ending.returned (.int .i64 z)) (by simp [insideW]), Below.refl _ _⟩)
    go_wp2_with fail
    refine (unhide HK _).mono ?_; rintro e w2 ⟨rfl, hw⟩; obtain rfl := hw.symm
    go_wp2_with fail
    refine (unhide HI _ n1).mono ?_; rintro e w3 ⟨rfl, hb⟩
    have n3 := bT n1 hb
    have F3 := F.of hb
    clear hb fp fd f0 f1 f2 f3 f4 f5 f6 fs
    obtain ⟨fp, fd, f0, f1, f2, f3, f4, f5, f6, fs⟩ := id F3
    go_wp2_with fail
    refine (unhide HK _).mono ?_; rintro e w2 ⟨rfl, hw⟩; obtain rfl := hw.symm
    have RW : Hid (∀ W, Std w3 W → Calls Tryz.prog 81 #[.agg #[.slice (some ⟨g, 0, none⟩) ps.length cap], .agg #[.slice (some ⟨gt, 0, none⟩) ts.length capt], .int .i64 (j : Int), .int .i64 (env + z)] W fun e w' => e = .returned (.int .i64 r) ∧ Below W.heap.size W w') := fun W h => unhide HJ1 W (bT n3 h.2.2)
    have t0 : w.heap.size < w3.heap.size := by omega
    have t1 : w.heap.size + 1 < w3.heap.size := by omega
    go_upto_region 11 with fail
    go_region_held3 (Std w3) (repeat (first | with_reducible assumption | with_reducible exact Std.refl _ | with_reducible refine Std.drew ?_ | with_reducible refine Std.alloc ?_ _ | with_reducible refine Std.setCell ?_ ?_ _ | with_reducible refine Std.call ?_ (by with_reducible assumption) | (simp <;> omega) | omega)) (first
      | (go_at_call 114; refine (unhide RI _).mono ?_; rintro e w6 ⟨rfl, hb6⟩)
      | (go_at_call 81; refine (unhide RW _ (by assumption)).mono ?_; rintro e w7 ⟨rfl, hb7⟩))
    have hS : Std w3 w7 := by assumption
    have n7 := bT n3 hS.2.2
    have F7 := F3.of hS.2.2
    clear hS fp fd f0 f1 f2 f3 f4 f5 f6 fs RI RW HI HK hb7
    (try clear hb6)
    obtain ⟨fp, fd, f0, f1, f2, f3, f4, f5, f6, fs⟩ := id F7
    by_cases hr : r < 0
    · have HE := hide ((unhide HE1).trans (if_pos hr))
      go_wp2
      go_ret
      exact ⟨congrArg (fun z => Ending.returned (.int .i64 z)) (unhide HE).symm, n7⟩
    · have HE2 := hide ((unhide HE1).trans (if_neg hr))
      clear HE1
      have r2 := r1 (by omega)
      have r3 : 0 ≤ r := by omega
      clear r1
      have hx : ¬ 200 < env + (z + r) := by omega
      have HE := hide ((unhide HE2).trans (if_neg hx))
      go_wp2
      go_ret
      exact ⟨congrArg (fun z => Ending.returned (.int .i64 z)) (unhide HE).symm, n7⟩
end Go.Proofs.YtnchcndcinpalaaGreatDoor
namespace Go.Proofs.YtnchcndcinpalaaGreatDoor
open Go Go.RowKit
set_option maxHeartbeats 4000000 in
theorem width_10 (ts : List Tb) (ps : List Pn) (g cap gt capt i : Nat) (env : Int) (w : World) (H : WHyp ts ps g cap gt capt i env w) (hi : i < ps.length) (hfr : frm (nds ps) i ≠ -1) (hu : UsedP ts ps[i]) (hK : (ps[i]).K = 10) :
    Calls Tryz.prog 81 #[.agg #[.slice (some ⟨g, 0, none⟩) ps.length cap], .agg #[.slice (some ⟨gt, 0, none⟩) ts.length capt], .int .i64 (i : Int), .int .i64 env] w fun e w' => e = .returned (.int .i64 (wid ts ps i env)) ∧ Below w.heap.size w w' := by
  obtain ⟨c0, c1, c2, c5, c6, ⟨b3, c3, _, hb3, ho3⟩, b4, c4, _, hb4, ho4⟩ := H.hn.at i hi
  have hf := H.fit _ (List.getElem_mem hi)
  have HU := hide (fun W => l3Used_calls ts.length (ps[i]).K (ps[i]).T (ps[i]).M (ps[i]).L (ps[i]).R (ps[i]).Ex.length (ps[i]).Exs.length (some ⟨b3, 0, none⟩) (some ⟨b4, 0, none⟩) (ps[i]).Ex.length (ps[i]).Exs.length gt capt W hf.1 hf.2.1)
  have HD : Hid (dB (UsedP ts ps[i]) = true) := dB_true hu
  have HK : Hid (∀ W, Calls Tryz.prog 112 #[.int .i64 10] W fun e w' => e = .returned (.int .i64 2) ∧ w' = W) := fun W => by
    have h := l3Kids_calls 10 W
    rw [show arity 10 = 2 by rfl] at h
    exact h
  obtain ⟨q, j, hq, hj, hL, hR, hfq, hfj⟩ := kid_two hi hfr (by rw [hK]; rfl)
  have hwr := wid_range ts ps q env
  have HO := hide (wid_two hi env hu (by rw [hK]; rfl) hL hq hR hj)
  have HI := hide (fun W hb => H.ih q hq hfq env H.e0 H.e1 W hb)
  have HJ := hide (fun ev h0 h1 W hb => H.ih j hj hfj ev h0 h1 W hb)
  have hin : insideW (ps[i]).K env (wid ts ps q env) = env := by rw [hK]; simp [insideW]
  have hE : wid ts ps i env = if wid ts ps q env < 0 then -1 else if wid ts ps j (env) < 0 then -1 else if (wid ts ps q env) = (wid ts ps j (env)) then (wid ts ps q env) else -1 := by
    rw [unhide HO, hin]
    have hr2 := wid_range ts ps j (env)
    have he0 := H.e0
    by_cases hz : wid ts ps q env < 0
    · rw [if_pos hz, if_pos hz]
    by_cases hr : wid ts ps j (env) < 0
    · rw [if_neg hz, if_neg hz, if_pos hr, if_pos hr]
    rw [if_neg hz, if_neg hz, if_neg hr, if_neg hr]
    have hz2 := hwr.2 (by omega)
    have hraw : rawW ts ps[i] env (wid ts ps q env) (wid ts ps j (env)) = if (wid ts ps q env) = (wid ts ps j (env)) then (wid ts ps q env) else -1 := by unfold rawW; simp [hK]
    unfold nodeW
    rw [hraw]
    generalize wid ts ps j (env) = r at *
    generalize wid ts ps q env = z at *
    by_cases h : z = r
    · rw [if_pos h, if_neg (by omega)]
    · rw [if_neg h, if_pos (by omega)]
  have HE0 := hide hE
  clear hE HO hin
  have hg := H.hg
  have l1 := H.lp
  have e0 := H.e0
  have e1 := H.e1
  have hl3 := hf.1
  have hl4 := hf.2.1
  clear H hu hf hfr
  simp only [Nat.zero_add] at c0 c1 c2 c3 c4 c5 c6
  unfold UsedP at HD
  cases e : ps[i] with | mk K T M Ex Exs L R =>
  rw [e] at c0 c1 c2 c3 c4 c5 c6 HU HD hK hl3 hl4 hL hR
  simp only at c0 c1 c2 c3 c4 c5 c6 HU HD hK hl3 hl4 hL hR
  clear e
  generalize dB (usedP ts.length K T M Ex.length Exs.length) = B at *
  subst hK
  subst hL
  subst hR
  have j0 : (i : Int) < (ps.length : Int) := by omega
  obtain rfl := HD.out
  go_enter Tryz.func81, Tryz.ntmps81
  go_wp2_with fail
  refine (unhide HU _).mono ?_; rintro e w1 ⟨rfl, hb⟩
  have n1 := bT (bA (bA (bA (Below.refl w.heap.size w) _) _) _) hb
  have F := WF.of (s := w.heap.size) (g := g) (np := ps.length) (cap := cap) (gt := gt) (nt := ts.length) (capt := capt) (K := 10) (T := T) (M := M) (L := (q : Int)) (R := (j : Int)) (u3 := .slice (some ⟨b3, 0, none⟩) Ex.length Ex.length) (u4 := .slice (some ⟨b4, 0, none⟩) Exs.length Exs.length) ⟨by simp [go_sem], by simp [go_sem], by simp [go_sem], by simp [go_sem], by simp [go_sem], by simp [go_sem], by simp [go_sem], by simp [go_sem], by simp [go_sem], by simp⟩ hb
  clear hb c0 c1 c2 c3 c4 c5 c6 HU
  obtain ⟨fp, fd, f0, f1, f2, f3, f4, f5, f6, fs⟩ := id F
  generalize wid ts ps q env = z at *
  have z0 := hwr.1
  have z1 := hwr.2
  by_cases h : z < 0
  · have HE := hide ((unhide HE0).trans (if_pos h))
    have hz : z = -1 := by omega
    clear z1 hwr HE0 HJ
    subst hz
    go_wp2_with fail
    refine (unhide HK _).mono ?_; rintro e w2 ⟨rfl, hw⟩; obtain rfl := hw.symm
    go_wp2_with fail
    refine (unhide HI _ n1).mono ?_; rintro e w3 ⟨rfl, hb⟩
    have n3 := bT n1 hb
    have F3 := F.of hb
    clear hb fp fd f0 f1 f2 f3 f4 f5 f6 fs
    obtain ⟨fp, fd, f0, f1, f2, f3, f4, f5, f6, fs⟩ := id F3
    go_wp2
    go_ret
    exact ⟨congrArg (fun z => Ending.returned (.int .i64 z)) (unhide HE).symm, n3⟩
  · have z2 := z1 (by omega)
    have h0 : 0 ≤ z := by omega
    clear z1 hwr
    have HJ1 := hide (fun W hb => unhide HJ (env) (by omega) (by omega) W hb)
    have hr2 := wid_range ts ps j (env)
    have HE1 := hide ((unhide HE0).trans (if_neg h))
    clear HJ HE0
    generalize wid ts ps j (env) = r at *
    have r0 := hr2.1
    have r1 := hr2.2
    clear hr2
    have RI : Hid (∀ W, Calls Tryz.prog 114 #[.int .i64 10, .int .i64 env, .int .i64 z] W fun e w' => e = .returned (.int .i64 (env)) ∧ Below W.heap.size W w') := fun W => (l3Inside_calls 10 env z W (by omega) (by omega) (by omega) (by omega)).mono (by
      rintro e w' ⟨rfl, hw⟩
      obtain rfl := hw.symm
      exact ⟨congrArg (fun z => Ending.returned (.int .i64 z)) (by simp [insideW]), Below.refl _ _⟩)
    go_wp2_with fail
    refine (unhide HK _).mono ?_; rintro e w2 ⟨rfl, hw⟩; obtain rfl := hw.symm
    go_wp2_with fail
    refine (unhide HI _ n1).mono ?_; rintro e w3 ⟨rfl, hb⟩
    have n3 := bT n1 hb
    have F3 := F.of hb
    clear hb fp fd f0 f1 f2 f3 f4 f5 f6 fs
    obtain ⟨fp, fd, f0, f1, f2, f3, f4, f5, f6, fs⟩ := id F3
    go_wp2_with fail
    refine (unhide HK _).mono ?_; rintro e w2 ⟨rfl, hw⟩; obtain rfl := hw.symm
    have RW : Hid (∀ W, Std w3 W → Calls Tryz.prog 81 #[.agg #[.slice (some ⟨g, 0, none⟩) ps.length cap], .agg #[.slice (some ⟨gt, 0, none⟩) ts.length capt], .int .i64 (j : Int), .int .i64 (env)] W fun e w' => e = .returned (.int .i64 r) ∧ Below W.heap.size W w') := fun W h => unhide HJ1 W (bT n3 h.2.2)
    have t0 : w.heap.size < w3.heap.size := by omega
    have t1 : w.heap.size + 1 < w3.heap.size := by omega
    go_upto_region 11 with fail
    go_region_held3 (Std w3) (repeat (first | with_reducible assumption | with_reducible exact Std.refl _ | with_reducible refine Std.drew ?_ | with_reducible refine Std.alloc ?_ _ | with_reducible refine Std.setCell ?_ ?_ _ | with_reducible refine Std.call ?_ (by with_reducible assumption) | (simp <;> omega) | omega)) (first
      | (go_at_call 114; refine (unhide RI _).mono ?_; rintro e w6 ⟨rfl, hb6⟩)
      | (go_at_call 81; refine (unhide RW _ (by assumption)).mono ?_; rintro e w7 ⟨rfl, hb7⟩))
    have hS : Std w3 w7 := by assumption
    have n7 := bT n3 hS.2.2
    have F7 := F3.of hS.2.2
    clear hS fp fd f0 f1 f2 f3 f4 f5 f6 fs RI RW HI HK hb7
    (try clear hb6)
    obtain ⟨fp, fd, f0, f1, f2, f3, f4, f5, f6, fs⟩ := id F7
    by_cases hr : r < 0
    · have HE := hide ((unhide HE1).trans (if_pos hr))
      go_wp2
      go_ret
      exact ⟨congrArg (fun z => Ending.returned (.int .i64 z)) (unhide HE).symm, n7⟩
    · have HE2 := hide ((unhide HE1).trans (if_neg hr))
      clear HE1
      have r2 := r1 (by omega)
      have r3 : 0 ≤ r := by omega
      clear r1
      by_cases hx : z = r
      · have HE := hide ((unhide HE2).trans (if_pos hx))
        have hx' : (z != r) = false := by simp [hx]
        have HXX := hide hx
        clear hx
        go_wp2
        go_ret
        exact ⟨congrArg (fun z => Ending.returned (.int .i64 z)) (unhide HE).symm, n7⟩
      · have HE := hide ((unhide HE2).trans (if_neg hx))
        have hx' : (z != r) = true := by simp [hx]
        go_wp2
        go_ret
        exact ⟨congrArg (fun z => Ending.returned (.int .i64 z)) (unhide HE).symm, n7⟩
end Go.Proofs.YtnchcndcinpalaaGreatDoor
namespace Go.Proofs.YtnchcndcinpalaaGreatDoor
open Go Go.RowKit
set_option maxHeartbeats 4000000 in
theorem width_7 (ts : List Tb) (ps : List Pn) (g cap gt capt i : Nat) (env : Int) (w : World) (H : WHyp ts ps g cap gt capt i env w) (hi : i < ps.length) (hfr : frm (nds ps) i ≠ -1) (hu : UsedP ts ps[i]) (hK : (ps[i]).K = 7) :
    Calls Tryz.prog 81 #[.agg #[.slice (some ⟨g, 0, none⟩) ps.length cap], .agg #[.slice (some ⟨gt, 0, none⟩) ts.length capt], .int .i64 (i : Int), .int .i64 env] w fun e w' => e = .returned (.int .i64 (wid ts ps i env)) ∧ Below w.heap.size w w' := by
  obtain ⟨c0, c1, c2, c5, c6, ⟨b3, c3, _, hb3, ho3⟩, b4, c4, _, hb4, ho4⟩ := H.hn.at i hi
  have hf := H.fit _ (List.getElem_mem hi)
  have HU := hide (fun W => l3Used_calls ts.length (ps[i]).K (ps[i]).T (ps[i]).M (ps[i]).L (ps[i]).R (ps[i]).Ex.length (ps[i]).Exs.length (some ⟨b3, 0, none⟩) (some ⟨b4, 0, none⟩) (ps[i]).Ex.length (ps[i]).Exs.length gt capt W hf.1 hf.2.1)
  have HD : Hid (dB (UsedP ts ps[i]) = true) := dB_true hu
  have HK : Hid (∀ W, Calls Tryz.prog 112 #[.int .i64 7] W fun e w' => e = .returned (.int .i64 2) ∧ w' = W) := fun W => by
    have h := l3Kids_calls 7 W
    rw [show arity 7 = 2 by rfl] at h
    exact h
  obtain ⟨q, j, hq, hj, hL, hR, hfq, hfj⟩ := kid_two hi hfr (by rw [hK]; rfl)
  have hwr := wid_range ts ps q env
  have HO := hide (wid_two hi env hu (by rw [hK]; rfl) hL hq hR hj)
  have HI := hide (fun W hb => H.ih q hq hfq env H.e0 H.e1 W hb)
  have HJ := hide (fun ev h0 h1 W hb => H.ih j hj hfj ev h0 h1 W hb)
  have HX := hide (fun X W (hb : Below w.heap.size w W) => sExOk_calls (ps[i]).Ex b3 0 (ps[i]).Ex.length X W (Nat.lt_of_lt_of_le hb3 hb.size) (ho3.of hb3 hb) hf.1)
  have hM : (ps[i]).M = 0 := hu.2.2.1 (by omega)
  have hin : insideW (ps[i]).K env (wid ts ps q env) = env + wid ts ps q env := by rw [hK]; simp [insideW]
  have hE : wid ts ps i env = if wid ts ps q env < 0 then -1 else if wid ts ps j (env + wid ts ps q env) < 0 then -1 else if (ps[i]).M = 1 ∨ exOk (env + (wid ts ps q env) + (wid ts ps j (env + wid ts ps q env))) (ps[i]).Ex = true then (if 200 < env + ((wid ts ps q env) + 1) then -1 else (wid ts ps q env) + 1) else -1 := by
    rw [unhide HO, hin]
    have hr2 := wid_range ts ps j (env + wid ts ps q env)
    have he0 := H.e0
    by_cases hz : wid ts ps q env < 0
    · rw [if_pos hz, if_pos hz]
    by_cases hr : wid ts ps j (env + wid ts ps q env) < 0
    · rw [if_neg hz, if_neg hz, if_pos hr, if_pos hr]
    rw [if_neg hz, if_neg hz, if_neg hr, if_neg hr]
    have hz2 := hwr.2 (by omega)
    have hraw : rawW ts ps[i] env (wid ts ps q env) (wid ts ps j (env + wid ts ps q env)) = if (ps[i]).M = 1 ∨ exOk (env + (wid ts ps q env) + (wid ts ps j (env + wid ts ps q env))) (ps[i]).Ex = true then (wid ts ps q env) + 1 else -1 := by unfold rawW; simp [hK]
    unfold nodeW
    rw [hraw]
    generalize wid ts ps j (env + wid ts ps q env) = r at *
    generalize wid ts ps q env = z at *
    by_cases hx : (ps[i]).M = 1 ∨ exOk (env + z + r) (ps[i]).Ex = true
    · rw [if_pos hx, if_pos hx]
      by_cases h : 200 < env + (z + 1)
      · rw [if_pos h, if_pos (Or.inr h)]
      · rw [if_neg h, if_neg (by omega)]
    · rw [if_neg hx, if_neg hx, if_pos (by omega)]
  have HE0 := hide hE
  clear hE HO hin
  have hg := H.hg
  have l1 := H.lp
  have e0 := H.e0
  have e1 := H.e1
  have hl3 := hf.1
  have hl4 := hf.2.1
  clear H hu hf hfr
  simp only [Nat.zero_add] at c0 c1 c2 c3 c4 c5 c6
  unfold UsedP at HD
  cases e : ps[i] with | mk K T M Ex Exs L R =>
  rw [e] at c0 c1 c2 c3 c4 c5 c6 HU HD hK hl3 hl4 hL hR HE0 HX hM
  simp only at c0 c1 c2 c3 c4 c5 c6 HU HD hK hl3 hl4 hL hR HE0 HX hM
  clear e
  generalize dB (usedP ts.length K T M Ex.length Exs.length) = B at *
  subst hK
  subst hL
  subst hR
  subst hM
  have j0 : (i : Int) < (ps.length : Int) := by omega
  obtain rfl := HD.out
  go_enter Tryz.func81, Tryz.ntmps81
  go_wp2_with fail
  refine (unhide HU _).mono ?_; rintro e w1 ⟨rfl, hb⟩
  have n1 := bT (bA (bA (bA (Below.refl w.heap.size w) _) _) _) hb
  have F := WF.of (s := w.heap.size) (g := g) (np := ps.length) (cap := cap) (gt := gt) (nt := ts.length) (capt := capt) (K := 7) (T := T) (M := 0) (L := (q : Int)) (R := (j : Int)) (u3 := .slice (some ⟨b3, 0, none⟩) Ex.length Ex.length) (u4 := .slice (some ⟨b4, 0, none⟩) Exs.length Exs.length) ⟨by simp [go_sem], by simp [go_sem], by simp [go_sem], by simp [go_sem], by simp [go_sem], by simp [go_sem], by simp [go_sem], by simp [go_sem], by simp [go_sem], by simp⟩ hb
  clear hb c0 c1 c2 c3 c4 c5 c6 HU
  obtain ⟨fp, fd, f0, f1, f2, f3, f4, f5, f6, fs⟩ := id F
  generalize wid ts ps q env = z at *
  have z0 := hwr.1
  have z1 := hwr.2
  by_cases h : z < 0
  · have HE := hide ((unhide HE0).trans (if_pos h))
    have hz : z = -1 := by omega
    clear z1 hwr HE0 HJ
    subst hz
    go_wp2_with fail
    refine (unhide HK _).mono ?_; rintro e w2 ⟨rfl, hw⟩; obtain rfl := hw.symm
    go_wp2_with fail
    refine (unhide HI _ n1).mono ?_; rintro e w3 ⟨rfl, hb⟩
    have n3 := bT n1 hb
    have F3 := F.of hb
    clear hb fp fd f0 f1 f2 f3 f4 f5 f6 fs
    obtain ⟨fp, fd, f0, f1, f2, f3, f4, f5, f6, fs⟩ := id F3
    go_wp2
    go_ret
    exact ⟨congrArg (fun z => Ending.returned (.int .i64 z)) (unhide HE).symm, n3⟩
  · have z2 := z1 (by omega)
    have h0 : 0 ≤ z := by omega
    clear z1 hwr
    have HJ1 := hide (fun W hb => unhide HJ (env + z) (by omega) (by omega) W hb)
    have hr2 := wid_range ts ps j (env + z)
    have HE1 := hide ((unhide HE0).trans (if_neg h))
    clear HJ HE0
    generalize wid ts ps j (env + z) = r at *
    have r0 := hr2.1
    have r1 := hr2.2
    clear hr2
    have RI : Hid (∀ W, Calls Tryz.prog 114 #[.int .i64 7, .int .i64 env, .int .i64 z] W fun e w' => e = .returned (.int .i64 (env + z)) ∧ Below W.heap.size W w') := fun W => (l3Inside_calls 7 env z W (by omega) (by omega) (by omega) (by omega)).mono (by
      rintro e w' ⟨rfl, hw⟩
      obtain rfl := hw.symm
      exact ⟨congrArg (fun z => Ending.returned (.int .i64 z)) (by simp [insideW]), Below.refl _ _⟩)
    go_wp2_with fail
    refine (unhide HK _).mono ?_; rintro e w2 ⟨rfl, hw⟩; obtain rfl := hw.symm
    go_wp2_with fail
    refine (unhide HI _ n1).mono ?_; rintro e w3 ⟨rfl, hb⟩
    have n3 := bT n1 hb
    have F3 := F.of hb
    clear hb fp fd f0 f1 f2 f3 f4 f5 f6 fs
    obtain ⟨fp, fd, f0, f1, f2, f3, f4, f5, f6, fs⟩ := id F3
    go_wp2_with fail
    refine (unhide HK _).mono ?_; rintro e w2 ⟨rfl, hw⟩; obtain rfl := hw.symm
    have RW : Hid (∀ W, Std w3 W → Calls Tryz.prog 81 #[.agg #[.slice (some ⟨g, 0, none⟩) ps.length cap], .agg #[.slice (some ⟨gt, 0, none⟩) ts.length capt], .int .i64 (j : Int), .int .i64 (env + z)] W fun e w' => e = .returned (.int .i64 r) ∧ Below W.heap.size W w') := fun W h => unhide HJ1 W (bT n3 h.2.2)
    have t0 : w.heap.size < w3.heap.size := by omega
    have t1 : w.heap.size + 1 < w3.heap.size := by omega
    go_upto_region 11 with fail
    go_region_held3 (Std w3) (repeat (first | with_reducible assumption | with_reducible exact Std.refl _ | with_reducible refine Std.drew ?_ | with_reducible refine Std.alloc ?_ _ | with_reducible refine Std.setCell ?_ ?_ _ | with_reducible refine Std.call ?_ (by with_reducible assumption) | (simp <;> omega) | omega)) (first
      | (go_at_call 114; refine (unhide RI _).mono ?_; rintro e w6 ⟨rfl, hb6⟩)
      | (go_at_call 81; refine (unhide RW _ (by assumption)).mono ?_; rintro e w7 ⟨rfl, hb7⟩))
    have hS : Std w3 w7 := by assumption
    have n7 := bT n3 hS.2.2
    have F7 := F3.of hS.2.2
    clear hS fp fd f0 f1 f2 f3 f4 f5 f6 fs RI RW HI HK hb7
    (try clear hb6)
    obtain ⟨fp, fd, f0, f1, f2, f3, f4, f5, f6, fs⟩ := id F7
    by_cases hr : r < 0
    · have HE := hide ((unhide HE1).trans (if_pos hr))
      go_wp2
      go_ret
      exact ⟨congrArg (fun z => Ending.returned (.int .i64 z)) (unhide HE).symm, n7⟩
    · have HE2 := hide ((unhide HE1).trans (if_neg hr))
      clear HE1
      have r2 := r1 (by omega)
      have r3 : 0 ≤ r := by omega
      clear r1
      have HX1 := hide (unhide HX (env + z + r))
      generalize exOk (env + z + r) Ex = B at *
      clear HX
      go_wp2_with fail
      refine (unhide HX1 _ n7).mono ?_; rintro e w8 ⟨rfl, hb⟩
      have n8 := bT n7 hb
      have F8 := F7.of hb
      clear hb fp fd f0 f1 f2 f3 f4 f5 f6 fs
      obtain ⟨fp, fd, f0, f1, f2, f3, f4, f5, f6, fs⟩ := id F8
      cases B
      · have HE := hide ((unhide HE2).trans (if_neg (by rintro (h | h) <;> first | omega | simp at h)))
        go_wp2
        go_ret
        exact ⟨congrArg (fun z => Ending.returned (.int .i64 z)) (unhide HE).symm, n8⟩
      · by_cases hx : 200 < env + (z + 1)
        · have HE := hide ((unhide HE2).trans ((if_pos (Or.inr rfl)).trans (if_pos hx)))
          go_wp2
          go_ret
          exact ⟨congrArg (fun z => Ending.returned (.int .i64 z)) (unhide HE).symm, n8⟩
        · have HE := hide ((unhide HE2).trans ((if_pos (Or.inr rfl)).trans (if_neg hx)))
          go_wp2
          go_ret
          exact ⟨congrArg (fun z => Ending.returned (.int .i64 z)) (unhide HE).symm, n8⟩
end Go.Proofs.YtnchcndcinpalaaGreatDoor
