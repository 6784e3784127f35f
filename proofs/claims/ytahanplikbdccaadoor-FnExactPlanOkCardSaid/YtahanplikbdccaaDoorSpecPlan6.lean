/-
  THE SPECIFICATION's WIDTH OF A NODE: kinds with one kid.
-/
import Derived.Test.YtahanplikbdccaaDoorSpecPlan4
import Derived.BigQuiet
import Derived.Deep.RegionHeld3
namespace Go.Proofs.YtahanplikbdccaaDoor
open Go Go.RowKit

set_option maxHeartbeats 4000000 in
theorem width_9 (ts : List Tb) (ps : List Pn) (g cap gt capt i : Nat) (env : Int) (w : World) (H : WHyp ts ps g cap gt capt i env w) (hi : i < ps.length) (hfr : frm (nds ps) i ≠ -1) (hu : UsedP ts ps[i]) (hK : (ps[i]).K = 9) :
    Calls Tryd.prog 27 #[.agg #[.slice (some ⟨g, 0, none⟩) ps.length cap], .agg #[.slice (some ⟨gt, 0, none⟩) ts.length capt], .int .i64 (i : Int), .int .i64 env] w fun e w' => e = .returned (.int .i64 (wid ts ps i env)) ∧ Below w.heap.size w w' := by
  obtain ⟨c0, c1, c2, c5, c6, ⟨b3, c3, _, hb3, ho3⟩, b4, c4, _, hb4, ho4⟩ := H.hn.at i hi
  have hf := H.fit _ (List.getElem_mem hi)
  have HU := hide (fun W => l3Used_calls ts.length (ps[i]).K (ps[i]).T (ps[i]).M (ps[i]).L (ps[i]).R (ps[i]).Ex.length (ps[i]).Exs.length (some ⟨b3, 0, none⟩) (some ⟨b4, 0, none⟩) (ps[i]).Ex.length (ps[i]).Exs.length gt capt W hf.1 hf.2.1)
  have HD : Hid (dB (UsedP ts ps[i]) = true) := dB_true hu
  have HK : Hid (∀ W, Calls Tryd.prog 41 #[.int .i64 9] W fun e w' => e = .returned (.int .i64 1) ∧ w' = W) := fun W => by
    have h := l3Kids_calls 9 W
    rw [show arity 9 = 1 by rfl] at h
    exact h
  obtain ⟨q, hq, hL, hR, hfq⟩ := kid_one hi hfr (by rw [hK]; rfl)
  have hwr := wid_range ts ps q env
  have HO := hide (wid_one hi env hu (by rw [hK]; rfl) hL hq)
  have HI := hide (fun W hb => H.ih q hq hfq env H.e0 H.e1 W hb)
  have hE : wid ts ps i env = wid ts ps q env := by
    rw [unhide HO]
    split
    · omega
    · have := hwr.2 (by omega)
      unfold nodeW rawW
      simp [hK]
      omega
  have HE := hide hE
  clear hE HO
  have hg := H.hg
  have l1 := H.lp
  have e0 := H.e0
  have e1 := H.e1
  have hl3 := hf.1
  have hl4 := hf.2.1
  clear H hu hf hfr
  simp only [Nat.zero_add] at c0 c1 c2 c3 c4 c5 c6
  unfold UsedP at HD
  cases e : ps[i] with | mk K T M Ex Exs L R =>
  rw [e] at c0 c1 c2 c3 c4 c5 c6 HU HD hK hl3 hl4 hL
  simp only at c0 c1 c2 c3 c4 c5 c6 HU HD hK hl3 hl4 hL
  clear e
  generalize dB (usedP ts.length K T M Ex.length Exs.length) = B at *
  subst hK
  subst hL
  have j0 : (i : Int) < (ps.length : Int) := by omega
  obtain rfl := HD.out
  go_enter Tryd.func27, Tryd.ntmps27
  go_wp2_with fail
  refine (unhide HU _).mono ?_; rintro e w1 ⟨rfl, hb⟩
  have n1 := bT (bA (bA (bA (Below.refl w.heap.size w) _) _) _) hb
  have F := WF.of (s := w.heap.size) (g := g) (np := ps.length) (cap := cap) (gt := gt) (nt := ts.length) (capt := capt) (K := 9) (T := T) (M := M) (L := (q : Int)) (R := R) (u3 := .slice (some ⟨b3, 0, none⟩) Ex.length Ex.length) (u4 := .slice (some ⟨b4, 0, none⟩) Exs.length Exs.length) ⟨by simp [go_sem], by simp [go_sem], by simp [go_sem], by simp [go_sem], by simp [go_sem], by simp [go_sem], by simp [go_sem], by simp [go_sem], by simp [go_sem], by simp⟩ hb
  clear hb c0 c1 c2 c3 c4 c5 c6 HU
  obtain ⟨fp, fd, f0, f1, f2, f3, f4, f5, f6, fs⟩ := id F
  generalize wid ts ps q env = z at *
  have z0 := hwr.1
  have z1 := hwr.2
  by_cases h : z < 0
  · have hz : z = -1 := by omega
    clear z1 hwr
    subst hz
    go_wp2_with fail
    refine (unhide HK _).mono ?_; rintro e w2 ⟨rfl, hw⟩; obtain rfl := hw.symm
    go_wp2_with fail
    refine (unhide HI _ n1).mono ?_; rintro e w3 ⟨rfl, hb⟩
    have n3 := bT n1 hb
    have F3 := F.of hb
    clear hb fp fd f0 f1 f2 f3 f4 f5 f6 fs
    obtain ⟨fp, fd, f0, f1, f2, f3, f4, f5, f6, fs⟩ := id F3
    go_wp2
    go_ret
    exact ⟨congrArg (fun z => Ending.returned (.int .i64 z)) (unhide HE).symm, n3⟩
  · have z2 := z1 (by omega)
    have h0 : 0 ≤ z := by omega
    clear z1 hwr
    go_wp2_with fail
    refine (unhide HK _).mono ?_; rintro e w2 ⟨rfl, hw⟩; obtain rfl := hw.symm
    go_wp2_with fail
    refine (unhide HI _ n1).mono ?_; rintro e w3 ⟨rfl, hb⟩
    have n3 := bT n1 hb
    have F3 := F.of hb
    clear hb fp fd f0 f1 f2 f3 f4 f5 f6 fs
    obtain ⟨fp, fd, f0, f1, f2, f3, f4, f5, f6, fs⟩ := id F3
    go_wp2_with fail
    refine (unhide HK _).mono ?_; rintro e w2 ⟨rfl, hw⟩; obtain rfl := hw.symm
    go_wp2
    go_ret
    exact ⟨congrArg (fun z => Ending.returned (.int .i64 z)) (unhide HE).symm, n3⟩
set_option maxHeartbeats 4000000 in
theorem width_3 (ts : List Tb) (ps : List Pn) (g cap gt capt i : Nat) (env : Int) (w : World) (H : WHyp ts ps g cap gt capt i env w) (hi : i < ps.length) (hfr : frm (nds ps) i ≠ -1) (hu : UsedP ts ps[i]) (hK : (ps[i]).K = 3) :
    Calls Tryd.prog 27 #[.agg #[.slice (some ⟨g, 0, none⟩) ps.length cap], .agg #[.slice (some ⟨gt, 0, none⟩) ts.length capt], .int .i64 (i : Int), .int .i64 env] w fun e w' => e = .returned (.int .i64 (wid ts ps i env)) ∧ Below w.heap.size w w' := by
  obtain ⟨c0, c1, c2, c5, c6, ⟨b3, c3, _, hb3, ho3⟩, b4, c4, _, hb4, ho4⟩ := H.hn.at i hi
  have hf := H.fit _ (List.getElem_mem hi)
  have HU := hide (fun W => l3Used_calls ts.length (ps[i]).K (ps[i]).T (ps[i]).M (ps[i]).L (ps[i]).R (ps[i]).Ex.length (ps[i]).Exs.length (some ⟨b3, 0, none⟩) (some ⟨b4, 0, none⟩) (ps[i]).Ex.length (ps[i]).Exs.length gt capt W hf.1 hf.2.1)
  have HD : Hid (dB (UsedP ts ps[i]) = true) := dB_true hu
  have HK : Hid (∀ W, Calls Tryd.prog 41 #[.int .i64 3] W fun e w' => e = .returned (.int .i64 1) ∧ w' = W) := fun W => by
    have h := l3Kids_calls 3 W
    rw [show arity 3 = 1 by rfl] at h
    exact h
  obtain ⟨q, hq, hL, hR, hfq⟩ := kid_one hi hfr (by rw [hK]; rfl)
  have hwr := wid_range ts ps q env
  have HO := hide (wid_one hi env hu (by rw [hK]; rfl) hL hq)
  have HI := hide (fun W hb => H.ih q hq hfq env H.e0 H.e1 W hb)
  have HX := hide (fun X W (hb : Below w.heap.size w W) => sExOk_calls (ps[i]).Ex b3 0 (ps[i]).Ex.length X W (Nat.lt_of_lt_of_le hb3 hb.size) (ho3.of hb3 hb) hf.1)
  have hE : wid ts ps i env = if wid ts ps q env < 0 then -1 else if exOk (env + wid ts ps q env) (ps[i]).Ex = true then wid ts ps q env else -1 := by
    rw [unhide HO]
    by_cases hz : wid ts ps q env < 0
    · rw [if_pos hz, if_pos hz]
    · have := hwr.2 (by omega)
      rw [if_neg hz, if_neg hz]
      have hr : rawW ts ps[i] env (wid ts ps q env) 0 = if exOk (env + wid ts ps q env) (ps[i]).Ex = true then wid ts ps q env else -1 := by
        unfold rawW
        rw [if_neg (show ¬ (ps[i]).K = 2 by omega), if_pos hK]
      unfold nodeW
      rw [hr]
      by_cases hx : exOk (env + wid ts ps q env) (ps[i]).Ex = true
      · rw [if_pos hx, if_neg (by omega)]
      · rw [if_neg hx, if_pos (by omega)]
  have HE0 := hide hE
  clear hE HO
  have hg := H.hg
  have l1 := H.lp
  have e0 := H.e0
  have e1 := H.e1
  have hl3 := hf.1
  have hl4 := hf.2.1
  clear H hu hf hfr
  simp only [Nat.zero_add] at c0 c1 c2 c3 c4 c5 c6
  unfold UsedP at HD
  cases e : ps[i] with | mk K T M Ex Exs L R =>
  rw [e] at c0 c1 c2 c3 c4 c5 c6 HU HD hK hl3 hl4 hL HX HE0
  simp only at c0 c1 c2 c3 c4 c5 c6 HU HD hK hl3 hl4 hL HX HE0
  clear e
  generalize dB (usedP ts.length K T M Ex.length Exs.length) = B at *
  subst hK
  subst hL
  have j0 : (i : Int) < (ps.length : Int) := by omega
  obtain rfl := HD.out
  go_enter Tryd.func27, Tryd.ntmps27
  go_wp2_with fail
  refine (unhide HU _).mono ?_; rintro e w1 ⟨rfl, hb⟩
  have n1 := bT (bA (bA (bA (Below.refl w.heap.size w) _) _) _) hb
  have F := WF.of (s := w.heap.size) (g := g) (np := ps.length) (cap := cap) (gt := gt) (nt := ts.length) (capt := capt) (K := 3) (T := T) (M := M) (L := (q : Int)) (R := R) (u3 := .slice (some ⟨b3, 0, none⟩) Ex.length Ex.length) (u4 := .slice (some ⟨b4, 0, none⟩) Exs.length Exs.length) ⟨by simp [go_sem], by simp [go_sem], by simp [go_sem], by simp [go_sem], by simp [go_sem], by simp [go_sem], by simp [go_sem], by simp [go_sem], by simp [go_sem], by simp⟩ hb
  clear hb c0 c1 c2 c3 c4 c5 c6 HU
  obtain ⟨fp, fd, f0, f1, f2, f3, f4, f5, f6, fs⟩ := id F
  generalize wid ts ps q env = z at *
  have z0 := hwr.1
  have z1 := hwr.2
  by_cases h : z < 0
  · have HE := hide ((unhide HE0).trans (if_pos h))
    have hz : z = -1 := by omega
    clear z1 hwr
    subst hz
    go_wp2_with fail
    refine (unhide HK _).mono ?_; rintro e w2 ⟨rfl, hw⟩; obtain rfl := hw.symm
    go_wp2_with fail
    refine (unhide HI _ n1).mono ?_; rintro e w3 ⟨rfl, hb⟩
    have n3 := bT n1 hb
    have F3 := F.of hb
    clear hb fp fd f0 f1 f2 f3 f4 f5 f6 fs
    obtain ⟨fp, fd, f0, f1, f2, f3, f4, f5, f6, fs⟩ := id F3
    go_wp2
    go_ret
    exact ⟨congrArg (fun z => Ending.returned (.int .i64 z)) (unhide HE).symm, n3⟩
  · have z2 := z1 (by omega)
    have h0 : 0 ≤ z := by omega
    clear z1 hwr
    have HX1 := hide (unhide HX (env + z))
    have HE1 := hide ((unhide HE0).trans (if_neg h))
    generalize exOk (env + z) Ex = B at *
    clear HX HE0
    go_wp2_with fail
    refine (unhide HK _).mono ?_; rintro e w2 ⟨rfl, hw⟩; obtain rfl := hw.symm
    go_wp2_with fail
    refine (unhide HI _ n1).mono ?_; rintro e w3 ⟨rfl, hb⟩
    have n3 := bT n1 hb
    have F3 := F.of hb
    clear hb fp fd f0 f1 f2 f3 f4 f5 f6 fs
    obtain ⟨fp, fd, f0, f1, f2, f3, f4, f5, f6, fs⟩ := id F3
    go_wp2_with fail
    refine (unhide HK _).mono ?_; rintro e w2 ⟨rfl, hw⟩; obtain rfl := hw.symm
    go_wp2_with fail
    refine (unhide HX1 _ n3).mono ?_; rintro e w4 ⟨rfl, hb⟩
    have n4 := bT n3 hb
    have F4 := F3.of hb
    clear hb fp fd f0 f1 f2 f3 f4 f5 f6 fs
    obtain ⟨fp, fd, f0, f1, f2, f3, f4, f5, f6, fs⟩ := id F4
    cases B
    · have HE := hide ((unhide HE1).trans (if_neg (by simp)))
      go_wp2
      go_ret
      exact ⟨congrArg (fun z => Ending.returned (.int .i64 z)) (unhide HE).symm, n4⟩
    · have HE := hide ((unhide HE1).trans (if_pos rfl))
      go_wp2
      go_ret
      exact ⟨congrArg (fun z => Ending.returned (.int .i64 z)) (unhide HE).symm, n4⟩
end Go.Proofs.YtahanplikbdccaaDoor
