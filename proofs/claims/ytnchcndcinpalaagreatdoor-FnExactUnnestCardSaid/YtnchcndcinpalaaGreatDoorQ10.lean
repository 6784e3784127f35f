import Derived.Test.YtnchcndcinpalaaGreatDoorQ8
import Derived.BigQuiet
import Derived.Deep.RegionHeld3
import Derived.Test.YtnchcndcinpalaaGreatDoorQ9
namespace Go.Proofs.YtnchcndcinpalaaGreatDoor
open Go Go.RowKit
set_option maxHeartbeats 4000000 in
theorem width_8 (ts : List Tb) (ps : List Pn) (g cap gt capt i : Nat) (env : Int) (w : World) (H : WHyp ts ps g cap gt capt i env w) (hi : i < ps.length) (hfr : frm (nds ps) i ≠ -1) (hu : UsedP ts ps[i]) (hK : (ps[i]).K = 8) :
    Calls Tryz.prog 81 #[.agg #[.slice (some ⟨g, 0, none⟩) ps.length cap], .agg #[.slice (some ⟨gt, 0, none⟩) ts.length capt], .int .i64 (i : Int), .int .i64 env] w fun e w' => e = .returned (.int .i64 (wid ts ps i env)) ∧ Below w.heap.size w w' := by
  obtain ⟨c0, c1, c2, c5, c6, ⟨b3, c3, _, hb3, ho3⟩, b4, c4, _, hb4, ho4⟩ := H.hn.at i hi
  have hf := H.fit _ (List.getElem_mem hi)
  have HU := hide (fun W => l3Used_calls ts.length (ps[i]).K (ps[i]).T (ps[i]).M (ps[i]).L (ps[i]).R (ps[i]).Ex.length (ps[i]).Exs.length (some ⟨b3, 0, none⟩) (some ⟨b4, 0, none⟩) (ps[i]).Ex.length (ps[i]).Exs.length gt capt W hf.1 hf.2.1)
  have HD : Hid (dB (UsedP ts ps[i]) = true) := dB_true hu
  have HK : Hid (∀ W, Calls Tryz.prog 112 #[.int .i64 8] W fun e w' => e = .returned (.int .i64 2) ∧ w' = W) := fun W => by
    have h := l3Kids_calls 8 W
    rw [show arity 8 = 2 by rfl] at h
    exact h
  obtain ⟨q, j, hq, hj, hL, hR, hfq, hfj⟩ := kid_two hi hfr (by rw [hK]; rfl)
  have hwr := wid_range ts ps q env
  have HO := hide (wid_two hi env hu (by rw [hK]; rfl) hL hq hR hj)
  have HI := hide (fun W hb => H.ih q hq hfq env H.e0 H.e1 W hb)
  have HJ := hide (fun ev h0 h1 W hb => H.ih j hj hfj ev h0 h1 W hb)
  have HX := hide (fun X W (hb : Below w.heap.size w W) => sExOk_calls (ps[i]).Ex b3 0 (ps[i]).Ex.length X W (Nat.lt_of_lt_of_le hb3 hb.size) (ho3.of hb3 hb) hf.1)
  have hin : insideW (ps[i]).K env (wid ts ps q env) = env + wid ts ps q env := by rw [hK]; simp [insideW]
  have hE : wid ts ps i env = if wid ts ps q env < 0 then -1 else if wid ts ps j (env + wid ts ps q env) < 0 then -1 else if (ps[i]).M = 1 ∨ exOk (env + (wid ts ps q env) + (wid ts ps j (env + wid ts ps q env))) (ps[i]).Ex = true then (if 200 < env + ((wid ts ps q env) + 1) then -1 else (wid ts ps q env) + 1) else -1 := by
    rw [unhide HO, hin]
    have hr2 := wid_range ts ps j (env + wid ts ps q env)
    have he0 := H.e0
    by_cases hz : wid ts ps q env < 0
    · rw [if_pos hz, if_pos hz]
    by_cases hr : wid ts ps j (env + wid ts ps q env) < 0
    · rw [if_neg hz, if_neg hz, if_pos hr, if_pos hr]
    rw [if_neg hz, if_neg hz, if_neg hr, if_neg hr]
    have hz2 := hwr.2 (by omega)
    have hraw : rawW ts ps[i] env (wid ts ps q env) (wid ts ps j (env + wid ts ps q env)) = if (ps[i]).M = 1 ∨ exOk (env + (wid ts ps q env) + (wid ts ps j (env + wid ts ps q env))) (ps[i]).Ex = true then (wid ts ps q env) + 1 else -1 := by unfold rawW; simp [hK]
    unfold nodeW
    rw [hraw]
    generalize wid ts ps j (env + wid ts ps q env) = r at *
    generalize wid ts ps q env = z at *
    by_cases hx : (ps[i]).M = 1 ∨ exOk (env + z + r) (ps[i]).Ex = true
    · rw [if_pos hx, if_pos hx]
      by_cases h : 200 < env + (z + 1)
      · rw [if_pos h, if_pos (Or.inr h)]
      · rw [if_neg h, if_neg (by omega)]
    · rw [if_neg hx, if_neg hx, if_pos (by omega)]
  have HE0 := hide hE
  clear hE HO hin
  have hg := H.hg
  have l1 := H.lp
  have e0 := H.e0
  have e1 := H.e1
  have hl3 := hf.1
  have hl4 := hf.2.1
  clear H hu hf hfr
  simp only [Nat.zero_add] at c0 c1 c2 c3 c4 c5 c6
  unfold UsedP at HD
  cases e : ps[i] with | mk K T M Ex Exs L R =>
  rw [e] at c0 c1 c2 c3 c4 c5 c6 HU HD hK hl3 hl4 hL hR HE0 HX
  simp only at c0 c1 c2 c3 c4 c5 c6 HU HD hK hl3 hl4 hL hR HE0 HX
  clear e
  generalize dB (usedP ts.length K T M Ex.length Exs.length) = B at *
  subst hK
  subst hL
  subst hR
  have j0 : (i : Int) < (ps.length : Int) := by omega
  obtain rfl := HD.out
  go_enter Tryz.func81, Tryz.ntmps81
  go_wp2_with fail
  refine (unhide HU _).mono ?_; rintro e w1 ⟨rfl, hb⟩
  have n1 := bT (bA (bA (bA (Below.refl w.heap.size w) _) _) _) hb
  have F := WF.of (s := w.heap.size) (g := g) (np := ps.length) (cap := cap) (gt := gt) (nt := ts.length) (capt := capt) (K := 8) (T := T) (M := M) (L := (q : Int)) (R := (j : Int)) (u3 := .slice (some ⟨b3, 0, none⟩) Ex.length Ex.length) (u4 := .slice (some ⟨b4, 0, none⟩) Exs.length Exs.length) ⟨by simp [go_sem], by simp [go_sem], by simp [go_sem], by simp [go_sem], by simp [go_sem], by simp [go_sem], by simp [go_sem], by simp [go_sem], by simp [go_sem], by simp⟩ hb
  clear hb c0 c1 c2 c3 c4 c5 c6 HU
  obtain ⟨fp, fd, f0, f1, f2, f3, f4, f5, f6, fs⟩ := id F
  generalize wid ts ps q env = z at *
  have z0 := hwr.1
  have z1 := hwr.2
  by_cases h : z < 0
  · have HE := hide ((unhide HE0).trans (if_pos h))
    have hz : z = -1 := by omega
    clear z1 hwr HE0 HJ
    subst hz
    go_wp2_with fail
    refine (unhide HK _).mono ?_; rintro e w2 ⟨rfl, hw⟩; obtain rfl := hw.symm
    go_wp2_with fail
    refine (unhide HI _ n1).mono ?_; rintro e w3 ⟨rfl, hb⟩
    have n3 := bT n1 hb
    have F3 := F.of hb
    clear hb fp fd f0 f1 f2 f3 f4 f5 f6 fs
    obtain ⟨fp, fd, f0, f1, f2, f3, f4, f5, f6, fs⟩ := id F3
    go_wp2
    go_ret
    exact ⟨congrArg (fun z => Ending.returned (.int .i64 z)) (unhide HE).symm, n3⟩
  · have z2 := z1 (by omega)
    have h0 : 0 ≤ z := by omega
    clear z1 hwr
    have HJ1 := hide (fun W hb => unhide HJ (env + z) (by omega) (by omega) W hb)
    have hr2 := wid_range ts ps j (env + z)
    have HE1 := hide ((unhide HE0).trans (if_neg h))
    clear HJ HE0
    generalize wid ts ps j (env + z) = r at *
    have r0 := hr2.1
    have r1 := hr2.2
    clear hr2
    have RI : Hid (∀ W, Calls Tryz.prog 114 #[.int .i64 8, .int .i64 env, .int .i64 z] W fun e w' => e = .returned (.int .i64 (env + z)) ∧ Below W.heap.size W w') := fun W => (l3Inside_calls 8 env z W (by omega) (by omega) (by omega) (by omega)).mono (by
      rintro e w' ⟨rfl, hw⟩
      obtain rfl := hw.symm
      exact ⟨congrArg (fun z => Ending.returned (.int .i64 z)) (by simp [insideW]), Below.refl _ _⟩)
    go_wp2_with fail
    refine (unhide HK _).mono ?_; rintro e w2 ⟨rfl, hw⟩; obtain rfl := hw.symm
    go_wp2_with fail
    refine (unhide HI _ n1).mono ?_; rintro e w3 ⟨rfl, hb⟩
    have n3 := bT n1 hb
    have F3 := F.of hb
    clear hb fp fd f0 f1 f2 f3 f4 f5 f6 fs
    obtain ⟨fp, fd, f0, f1, f2, f3, f4, f5, f6, fs⟩ := id F3
    go_wp2_with fail
    refine (unhide HK _).mono ?_; rintro e w2 ⟨rfl, hw⟩; obtain rfl := hw.symm
    have RW : Hid (∀ W, Std w3 W → Calls Tryz.prog 81 #[.agg #[.slice (some ⟨g, 0, none⟩) ps.length cap], .agg #[.slice (some ⟨gt, 0, none⟩) ts.length capt], .int .i64 (j : Int), .int .i64 (env + z)] W fun e w' => e = .returned (.int .i64 r) ∧ Below W.heap.size W w') := fun W h => unhide HJ1 W (bT n3 h.2.2)
    have t0 : w.heap.size < w3.heap.size := by omega
    have t1 : w.heap.size + 1 < w3.heap.size := by omega
    go_upto_region 11 with fail
    go_region_held3 (Std w3) (repeat (first | with_reducible assumption | with_reducible exact Std.refl _ | with_reducible refine Std.drew ?_ | with_reducible refine Std.alloc ?_ _ | with_reducible refine Std.setCell ?_ ?_ _ | with_reducible refine Std.call ?_ (by with_reducible assumption) | (simp <;> omega) | omega)) (first
      | (go_at_call 114; refine (unhide RI _).mono ?_; rintro e w6 ⟨rfl, hb6⟩)
      | (go_at_call 81; refine (unhide RW _ (by assumption)).mono ?_; rintro e w7 ⟨rfl, hb7⟩))
    have hS : Std w3 w7 := by assumption
    have n7 := bT n3 hS.2.2
    have F7 := F3.of hS.2.2
    clear hS fp fd f0 f1 f2 f3 f4 f5 f6 fs RI RW HI HK hb7
    (try clear hb6)
    obtain ⟨fp, fd, f0, f1, f2, f3, f4, f5, f6, fs⟩ := id F7
    by_cases hr : r < 0
    · have HE := hide ((unhide HE1).trans (if_pos hr))
      go_wp2
      go_ret
      exact ⟨congrArg (fun z => Ending.returned (.int .i64 z)) (unhide HE).symm, n7⟩
    · have HE2 := hide ((unhide HE1).trans (if_neg hr))
      clear HE1
      have r2 := r1 (by omega)
      have r3 : 0 ≤ r := by omega
      clear r1
      by_cases hM1 : M = 1
      · have HE3 := hide ((unhide HE2).trans (if_pos (Or.inl hM1)))
        clear HX HE2
        have hm' : (M != 1) = false := by simp [hM1]
        clear hM1
        by_cases hx : 200 < env + (z + 1)
        · have HE := hide ((unhide HE3).trans (if_pos hx))
          go_wp2
          go_ret
          exact ⟨congrArg (fun z => Ending.returned (.int .i64 z)) (unhide HE).symm, n7⟩
        · have HE := hide ((unhide HE3).trans (if_neg hx))
          go_wp2
          go_ret
          exact ⟨congrArg (fun z => Ending.returned (.int .i64 z)) (unhide HE).symm, n7⟩
      · have hm' : (M != 1) = true := by simp [hM1]
        have HX1 := hide (unhide HX (env + z + r))
        generalize exOk (env + z + r) Ex = B at *
        clear HX
        go_wp2_with fail
        refine (unhide HX1 _ n7).mono ?_; rintro e w8 ⟨rfl, hb⟩
        have n8 := bT n7 hb
        have F8 := F7.of hb
        clear hb fp fd f0 f1 f2 f3 f4 f5 f6 fs
        obtain ⟨fp, fd, f0, f1, f2, f3, f4, f5, f6, fs⟩ := id F8
        cases B
        · have HE := hide ((unhide HE2).trans (if_neg (by rintro (h | h) <;> first | omega | simp at h)))
          go_wp2
          go_ret
          exact ⟨congrArg (fun z => Ending.returned (.int .i64 z)) (unhide HE).symm, n8⟩
        · by_cases hx : 200 < env + (z + 1)
          · have HE := hide ((unhide HE2).trans ((if_pos (Or.inr rfl)).trans (if_pos hx)))
            go_wp2
            go_ret
            exact ⟨congrArg (fun z => Ending.returned (.int .i64 z)) (unhide HE).symm, n8⟩
          · have HE := hide ((unhide HE2).trans ((if_pos (Or.inr rfl)).trans (if_neg hx)))
            go_wp2
            go_ret
            exact ⟨congrArg (fun z => Ending.returned (.int .i64 z)) (unhide HE).symm, n8⟩
end Go.Proofs.YtnchcndcinpalaaGreatDoor
namespace Go.Proofs.YtnchcndcinpalaaGreatDoor
open Go Go.RowKit
theorem rawW_map (ts : List Tb) (p : Pn) (env l r : Int) (hK : p.K = 4) : rawW ts p env l r = if (p.Exs.all fun xs => exOk (env + l) xs) = true then (p.Exs.length : Int) else -1 := by
  unfold rawW
  rw [if_neg (show ¬ p.K = 2 by omega), if_neg (show ¬ p.K = 3 by omega), if_pos hK]
  by_cases h : ∀ xs ∈ p.Exs, exOk (env + l) xs = true
  · rw [if_pos h, if_pos (List.all_eq_true.2 h)]
  · rw [if_neg h, if_neg (fun h' => h (List.all_eq_true.1 h'))]
set_option maxHeartbeats 4000000 in
theorem width_4 (ts : List Tb) (ps : List Pn) (g cap gt capt i : Nat) (env : Int) (w : World) (H : WHyp ts ps g cap gt capt i env w) (hi : i < ps.length) (hfr : frm (nds ps) i ≠ -1) (hu : UsedP ts ps[i]) (hK : (ps[i]).K = 4) :
    Calls Tryz.prog 81 #[.agg #[.slice (some ⟨g, 0, none⟩) ps.length cap], .agg #[.slice (some ⟨gt, 0, none⟩) ts.length capt], .int .i64 (i : Int), .int .i64 env] w fun e w' => e = .returned (.int .i64 (wid ts ps i env)) ∧ Below w.heap.size w w' := by
  obtain ⟨c0, c1, c2, c5, c6, ⟨b3, c3, _, hb3, ho3⟩, b4, c4, _, hb4, ho4⟩ := H.hn.at i hi
  have hf := H.fit _ (List.getElem_mem hi)
  have HU := hide (fun W => l3Used_calls ts.length (ps[i]).K (ps[i]).T (ps[i]).M (ps[i]).L (ps[i]).R (ps[i]).Ex.length (ps[i]).Exs.length (some ⟨b3, 0, none⟩) (some ⟨b4, 0, none⟩) (ps[i]).Ex.length (ps[i]).Exs.length gt capt W hf.1 hf.2.1)
  have HD : Hid (dB (UsedP ts ps[i]) = true) := dB_true hu
  have HK : Hid (∀ W, Calls Tryz.prog 112 #[.int .i64 4] W fun e w' => e = .returned (.int .i64 1) ∧ w' = W) := fun W => by
    have h := l3Kids_calls 4 W
    rw [show arity 4 = 1 by rfl] at h
    exact h
  obtain ⟨q, hq, hL, hR, hfq⟩ := kid_one hi hfr (by rw [hK]; rfl)
  have hwr := wid_range ts ps q env
  have HO := hide (wid_one hi env hu (by rw [hK]; rfl) hL hq)
  have HI := hide (fun W hb => H.ih q hq hfq env H.e0 H.e1 W hb)
  have hfx := hf.2.2
  have hE : wid ts ps i env = if wid ts ps q env < 0 then -1 else if ((ps[i]).Exs.all fun xs => exOk (env + wid ts ps q env) xs) = true then (if 200 < env + ((ps[i]).Exs.length : Int) then -1 else ((ps[i]).Exs.length : Int)) else -1 := by
    rw [unhide HO]
    by_cases hz : wid ts ps q env < 0
    · rw [if_pos hz, if_pos hz]
    · have := hwr.2 (by omega)
      rw [if_neg hz, if_neg hz]
      have hr := rawW_map ts ps[i] env (wid ts ps q env) 0 hK
      unfold nodeW
      rw [hr]
      by_cases hx : ((ps[i]).Exs.all fun xs => exOk (env + wid ts ps q env) xs) = true
      · rw [if_pos hx, if_pos hx]
        by_cases h : 200 < env + ((ps[i]).Exs.length : Int)
        · rw [if_pos h, if_pos (Or.inr h)]
        · rw [if_neg h, if_neg (by omega)]
      · rw [if_neg hx, if_neg hx, if_pos (by omega)]
  have HE0 := hide hE
  clear hE HO
  have hg := H.hg
  have l1 := H.lp
  have e0 := H.e0
  have e1 := H.e1
  have hl3 := hf.1
  have hl4 := hf.2.1
  clear H hu hf hfr
  simp only [Nat.zero_add] at c0 c1 c2 c3 c4 c5 c6
  unfold UsedP at HD
  cases e : ps[i] with | mk K T M Ex Exs L R =>
  rw [e] at c0 c1 c2 c3 c4 c5 c6 HU HD hK hl3 hl4 hL HE0 ho4 hfx
  simp only at c0 c1 c2 c3 c4 c5 c6 HU HD hK hl3 hl4 hL HE0 ho4 hfx
  clear e
  generalize dB (usedP ts.length K T M Ex.length Exs.length) = B at *
  subst hK
  subst hL
  have j0 : (i : Int) < (ps.length : Int) := by omega
  obtain rfl := HD.out
  go_enter Tryz.func81, Tryz.ntmps81
  go_wp2_with fail
  refine (unhide HU _).mono ?_; rintro e w1 ⟨rfl, hb⟩
  have n1 := bT (bA (bA (bA (Below.refl w.heap.size w) _) _) _) hb
  have F := WF.of (s := w.heap.size) (g := g) (np := ps.length) (cap := cap) (gt := gt) (nt := ts.length) (capt := capt) (K := 4) (T := T) (M := M) (L := (q : Int)) (R := R) (u3 := .slice (some ⟨b3, 0, none⟩) Ex.length Ex.length) (u4 := .slice (some ⟨b4, 0, none⟩) Exs.length Exs.length) ⟨by simp [go_sem], by simp [go_sem], by simp [go_sem], by simp [go_sem], by simp [go_sem], by simp [go_sem], by simp [go_sem], by simp [go_sem], by simp [go_sem], by simp⟩ hb
  clear hb c0 c1 c2 c3 c4 c5 c6 HU
  obtain ⟨fp, fd, f0, f1, f2, f3, f4, f5, f6, fs⟩ := id F
  have HFx := hide hfx
  have HO4 := hide ho4
  clear hfx ho4
  generalize wid ts ps q env = z at *
  have z0 := hwr.1
  have z1 := hwr.2
  by_cases h : z < 0
  · have HE := hide ((unhide HE0).trans (if_pos h))
    have hz : z = -1 := by omega
    clear z1 hwr HE0
    subst hz
    go_wp2_with fail
    refine (unhide HK _).mono ?_; rintro e w2 ⟨rfl, hw⟩; obtain rfl := hw.symm
    go_wp2_with fail
    refine (unhide HI _ n1).mono ?_; rintro e w3 ⟨rfl, hb⟩
    have n3 := bT n1 hb
    have F3 := F.of hb
    clear hb fp fd f0 f1 f2 f3 f4 f5 f6 fs
    obtain ⟨fp, fd, f0, f1, f2, f3, f4, f5, f6, fs⟩ := id F3
    go_wp2
    go_ret
    exact ⟨congrArg (fun z => Ending.returned (.int .i64 z)) (unhide HE).symm, n3⟩
  · have z2 := z1 (by omega)
    have h0 : 0 ≤ z := by omega
    clear z1 hwr
    have HE1 := hide ((unhide HE0).trans (if_neg h))
    clear HE0
    go_wp2_with fail
    refine (unhide HK _).mono ?_; rintro e w2 ⟨rfl, hw⟩; obtain rfl := hw.symm
    go_wp2_with fail
    refine (unhide HI _ n1).mono ?_; rintro e w3 ⟨rfl, hb⟩
    have n3 := bT n1 hb
    have F3 := F.of hb
    clear hb fp fd f0 f1 f2 f3 f4 f5 f6 fs
    obtain ⟨fp, fd, f0, f1, f2, f3, f4, f5, f6, fs⟩ := id F3
    go_wp2_with fail
    refine (unhide HK _).mono ?_; rintro e w2 ⟨rfl, hw⟩; obtain rfl := hw.symm
    clear fp fd f0 f1 f2 f3 f4 f5 f6 fs
    obtain ⟨fp, fd, f0, f1, f2, f3, f4, f5, f6, fs⟩ := id F3
    go_wp2
    go_loopw [13] (fun c wr => ∃ k : Nat, k ≤ Exs.length ∧ c = .int .i64 k ∧ (∀ (m : Nat) (hm : m < Exs.length), m < k → exOk (env + z) Exs[m] = true) ∧ WF w.heap.size g ps.length cap gt ts.length capt 4 T M (q : Int) R (.slice (some ⟨b3, 0, none⟩) Ex.length Ex.length) (.slice (some ⟨b4, 0, none⟩) Exs.length Exs.length) wr ∧ Below w.heap.size w wr) (fun c _ => Exs.length - (intOf c).toNat)
    case atStart => exact ⟨0, Nat.zero_le _, rfl, fun m hm h => by omega, F3, n3⟩
    case round =>
      obtain ⟨k, hk, rfl, hw, Fr, nr⟩ := hrel
      have HW := hide hw
      clear hw fp fd f0 f1 f2 f3 f4 f5 f6 fs
      obtain ⟨fp, fd, f0, f1, f2, f3, f4, f5, f6, fs⟩ := id Fr
      by_cases hlt : k < Exs.length
      · obtain ⟨b, x1, _, x3, x4⟩ := (unhide HO4).of hb4 nr k Exs[k] (by simp [hlt])
        have EN := hide (sExOk_calls Exs[k] b 0 (Exs[k]).length (env + z) wr x3 x4 (unhide HFx _ (List.getElem_mem hlt)))
        have hyes : exOk (env + z) Exs[k] = true → ∀ (m : Nat) (hm : m < Exs.length), m < k + 1 → exOk (env + z) Exs[m] = true := fun h m hm hmk => by
          by_cases e : m = k
          · subst e; exact h
          · exact unhide HW m hm (by omega)
        have hno : exOk (env + z) Exs[k] = false → wid ts ps i env = -1 := fun h => (unhide HE1).trans (if_neg (fun ha => by rw [List.all_eq_true.1 ha _ (List.getElem_mem hlt)] at h; simp at h))
        have HY := hide hyes; have HN := hide hno
        clear hyes hno x4
        generalize exOk (env + z) Exs[k] = B at *
        generalize (Exs[k]).length = lk at *
        have j1 : (k : Int) < (Exs.length : Int) := by omega
        go_wp2_with fail
        refine (unhide EN).mono ?_; rintro e w5 ⟨rfl, hb⟩
        have n5 := bT nr hb
        have F5 := Fr.of hb
        clear fp fd f0 f1 f2 f3 f4 f5 f6 fs
        obtain ⟨fp, fd, f0, f1, f2, f3, f4, f5, f6, fs⟩ := id F5
        cases B
        · have HE := hide (unhide HN rfl)
          go_wp2
          go_ret
          exact ⟨congrArg (fun z => Ending.returned (.int .i64 z)) (unhide HE).symm, n5⟩
        · have HNx := hide (unhide HY rfl)
          go_wp2
          go_roundw
          case rel => exact ⟨k + 1, by omega, by go_num, unhide HNx, F5, n5⟩
          case measure => simp [intOf]; omega
      · obtain rfl : k = Exs.length := by omega
        have hall : ∀ xs ∈ Exs, exOk (env + z) xs = true := fun xs hxs => by
          obtain ⟨m, hm, rfl⟩ := List.mem_iff_getElem.1 hxs
          exact unhide HW m hm hm
        have HE2 := hide ((unhide HE1).trans (if_pos (List.all_eq_true.2 hall)))
        clear hall
        by_cases hx : 200 < env + (Exs.length : Int)
        · have HE := hide ((unhide HE2).trans (if_pos hx))
          go_wp2
          go_ret
          exact ⟨congrArg (fun z => Ending.returned (.int .i64 z)) (unhide HE).symm, nr⟩
        · have HE := hide ((unhide HE2).trans (if_neg hx))
          go_wp2
          go_ret
          exact ⟨congrArg (fun z => Ending.returned (.int .i64 z)) (unhide HE).symm, nr⟩
end Go.Proofs.YtnchcndcinpalaaGreatDoor
namespace Go.Proofs.YtnchcndcinpalaaGreatDoor
open Go Go.RowKit
theorem kind_of {ps : List Pn} {i : Nat} (hi : i < ps.length) (h : frm (nds ps) i ≠ -1) : 1 ≤ (ps[i]).K ∧ (ps[i]).K ≤ 10 := by
  refine Decidable.byContradiction (fun hc => h (frm_neg ?_))
  rw [kidsAt_nds hi]
  have ha : arity (ps[i]).K = -1 := by
    unfold arity
    rw [if_neg (by omega), if_neg (by omega), if_neg hc]
  unfold kidsP
  simp [ha]
theorem l3Width_calls (ts : List Tb) (ps : List Pn) (g cap gt capt : Nat) (lp : ps.length ≤ 1048576) (lt : ts.length ≤ 1048576) (fit : ∀ p ∈ ps, p.Ex.length ≤ 1048576 ∧ p.Exs.length ≤ 1048576 ∧ ∀ xs ∈ p.Exs, xs.length ≤ 1048576) (cols : ∀ t ∈ ts, 0 ≤ t.Cols ∧ t.Cols ≤ 16) :
    ∀ (n i : Nat), i < n → i < ps.length → frm (nds ps) i ≠ -1 → ∀ (env : Int), 0 ≤ env → env ≤ 200 → ∀ (w : World), g < w.heap.size → PnsAt w g 0 ps → gt < w.heap.size → TablesAt w gt 0 ts →
    Calls Tryz.prog 81 #[.agg #[.slice (some ⟨g, 0, none⟩) ps.length cap], .agg #[.slice (some ⟨gt, 0, none⟩) ts.length capt], .int .i64 (i : Int), .int .i64 env] w fun e w' => e = .returned (.int .i64 (wid ts ps i env)) ∧ Below w.heap.size w w' := by
  intro n
  induction n with
  | zero => intro i hi; omega
  | succ n ih =>
    intro i hin hi hfr env h0 h1 w hg hn hgt ht
    have H : WHyp ts ps g cap gt capt i env w := ⟨lp, lt, fit, cols, h0, h1, hg, hn, hgt, ht, fun q hq hfq ev e0 e1 W hb =>
      ih q (by omega) (by omega) hfq ev e0 e1 W (Nat.lt_of_lt_of_le hg hb.size) (hn.of hg hb) (Nat.lt_of_lt_of_le hgt hb.size) (ht.of hgt hb)⟩
    by_cases hu : UsedP ts ps[i]
    · have hk := kind_of hi hfr
      have hc : (ps[i]).K = 1 ∨ (ps[i]).K = 2 ∨ (ps[i]).K = 3 ∨ (ps[i]).K = 4 ∨ (ps[i]).K = 5 ∨ (ps[i]).K = 6 ∨ (ps[i]).K = 7 ∨ (ps[i]).K = 8 ∨ (ps[i]).K = 9 ∨ (ps[i]).K = 10 := by omega
      rcases hc with hK | hK | hK | hK | hK | hK | hK | hK | hK | hK
      · exact width_1 ts ps g cap gt capt i env w H hi hfr hu hK
      · exact width_2 ts ps g cap gt capt i env w H hi hfr hu hK
      · exact width_3 ts ps g cap gt capt i env w H hi hfr hu hK
      · exact width_4 ts ps g cap gt capt i env w H hi hfr hu hK
      · exact width_5 ts ps g cap gt capt i env w H hi hfr hu hK
      · exact width_6 ts ps g cap gt capt i env w H hi hfr hu hK
      · exact width_7 ts ps g cap gt capt i env w H hi hfr hu hK
      · exact width_8 ts ps g cap gt capt i env w H hi hfr hu hK
      · exact width_9 ts ps g cap gt capt i env w H hi hfr hu hK
      · exact width_10 ts ps g cap gt capt i env w H hi hfr hu hK
    · exact width_not ts ps g cap gt capt i env w H hi hu
end Go.Proofs.YtnchcndcinpalaaGreatDoor
namespace Go.Proofs.YtnchcndcinpalaaGreatDoor
open Go Go.RowKit
structure PlanV (ts : List Tb) (ps : List Pn) : Prop where
  db : DbV ts
  some : 1 ≤ ps.length
  few : ps.length ≤ 2000
  all : frm (nds ps) (ps.length - 1) = 0
  wide : 0 ≤ wid ts ps (ps.length - 1) 0
open Classical in
noncomputable def planW (ts : List Tb) (ps : List Pn) : Int := if PlanV ts ps then wid ts ps (ps.length - 1) 0 else 0
noncomputable def planE (ts : List Tb) (ps : List Pn) : Ending := .returned (.tuple #[.int .i64 (planW ts ps), .bool (dB (PlanV ts ps))])
theorem planE_no {ts : List Tb} {ps : List Pn} (h : ¬ PlanV ts ps) : planE ts ps = .returned (.tuple #[.int .i64 0, .bool false]) := by
  unfold planE planW
  rw [if_neg h, dB_false h]
theorem planE_yes {ts : List Tb} {ps : List Pn} (h : PlanV ts ps) : planE ts ps = .returned (.tuple #[.int .i64 (wid ts ps (ps.length - 1) 0), .bool true]) := by
  unfold planE planW
  rw [if_pos h, dB_true h]
structure PF (s g np cap gt nt capt : Nat) (W : World) : Prop where
  p : W.cell? ⟨s, 0, none⟩ = some (.slice (some ⟨g, 0, none⟩) np cap)
  d : W.cell? ⟨s + 1, 0, none⟩ = some (.slice (some ⟨gt, 0, none⟩) nt capt)
  sz : s + 1 < W.heap.size
theorem PF.of {s g np cap gt nt capt : Nat} {W W1 : World} (h : PF s g np cap gt nt capt W) (hb : Below W.heap.size W W1) : PF s g np cap gt nt capt W1 := by
  have hs := h.sz
  exact ⟨(hb.cell (p := ⟨s, 0, none⟩) (show s < _ by omega)).trans h.p, (hb.cell (p := ⟨s + 1, 0, none⟩) (show s + 1 < _ by omega)).trans h.d, Nat.lt_of_lt_of_le hs hb.size⟩
set_option maxHeartbeats 4000000 in
theorem sPlanOk_calls (ts : List Tb) (ps : List Pn) (g cap gt capt : Nat) (w : World) (lp : ps.length ≤ 1048576) (lt : ts.length ≤ 1048576) (hsm : SmallT ts) (fit : ∀ p ∈ ps, p.Ex.length ≤ 1048576 ∧ p.Exs.length ≤ 1048576 ∧ ∀ xs ∈ p.Exs, xs.length ≤ 1048576)
    (hg : g < w.heap.size) (hn : PnsAt w g 0 ps) (hgt : gt < w.heap.size) (ht : TablesAt w gt 0 ts) :
    Calls Tryz.prog 43 #[.agg #[.slice (some ⟨g, 0, none⟩) ps.length cap], .agg #[.slice (some ⟨gt, 0, none⟩) ts.length capt]] w fun e w' => e = planE ts ps ∧ Below w.heap.size w w' := by
  have HDb := hide (fun W (hb : Below w.heap.size w W) => sDbOk_calls ts gt capt W (Nat.lt_of_lt_of_le hgt hb.size) (ht.of hgt hb) lt hsm)
  have HNo := hide (fun (h : ¬ PlanV ts ps) => planE_no h)
  by_cases hd : DbV ts
  rotate_left
  · have HD : Hid (dB (DbV ts) = false) := dB_false hd
    have HE := hide (unhide HNo (fun h => hd h.db))
    clear HNo hn ht hsm fit hd
    generalize dB (DbV ts) = B at *
    generalize planE ts ps = E at *
    obtain rfl := HD.out
    go_enter Tryz.func43, Tryz.ntmps43
    go_wp2_with fail
    refine (unhide HDb _ (bA (bA (Below.refl _ _) _) _)).mono ?_; rintro e w1 ⟨rfl, hb⟩
    have n1 := bT (bA (bA (Below.refl w.heap.size w) _) _) hb
    go_wp2
    go_ret2
    exact ⟨(unhide HE).symm, n1⟩
  have HD : Hid (dB (DbV ts) = true) := dB_true hd
  generalize hBd : dB (DbV ts) = B at *
  obtain rfl := HD.out
  clear hBd
  by_cases h1 : (ps.length : Int) < 1
  · have HE := hide (unhide HNo (fun h => by have := h.some; omega))
    clear HNo hn ht hsm fit hd
    generalize planE ts ps = E at *
    go_enter Tryz.func43, Tryz.ntmps43
    go_wp2_with fail
    refine (unhide HDb _ (bA (bA (Below.refl _ _) _) _)).mono ?_; rintro e w1 ⟨rfl, hb⟩
    have n1 := bT (bA (bA (Below.refl w.heap.size w) _) _) hb
    go_wp2
    go_ret2
    exact ⟨(unhide HE).symm, n1⟩
  by_cases h2 : 2000 < (ps.length : Int)
  · have HE := hide (unhide HNo (fun h => by have := h.few; omega))
    clear HNo hn ht hsm fit hd
    generalize planE ts ps = E at *
    go_enter Tryz.func43, Tryz.ntmps43
    go_wp2_with fail
    refine (unhide HDb _ (bA (bA (Below.refl _ _) _) _)).mono ?_; rintro e w1 ⟨rfl, hb⟩
    have n1 := bT (bA (bA (Below.refl w.heap.size w) _) _) hb
    go_wp2
    go_ret2
    exact ⟨(unhide HE).symm, n1⟩
  have hk : ((ps.length - 1 : Nat) : Int) = (ps.length : Int) - 1 := by omega
  have HF := hide (fun W (hb : Below w.heap.size w W) => by
    have h := from3_calls ps g cap lp ps.length (ps.length - 1) (by omega) (by omega) W (Nat.lt_of_lt_of_le hg hb.size) (hn.of hg hb)
    rw [hk] at h
    exact h)
  have HW := hide (fun (hf : frm (nds ps) (ps.length - 1) = 0) W (hb : Below w.heap.size w W) => by
    have h := l3Width_calls ts ps g cap gt capt lp lt fit (fun t htm => by
      obtain ⟨k, hk', rfl⟩ := List.mem_iff_getElem.1 htm
      have := hd.each k hk'
      exact ⟨by have := this.2.1; omega, this.2.2.1⟩) ps.length (ps.length - 1) (by omega) (by omega) (by omega) 0 (by omega) (by omega) W (Nat.lt_of_lt_of_le hg hb.size) (hn.of hg hb) (Nat.lt_of_lt_of_le hgt hb.size) (ht.of hgt hb)
    rw [hk] at h
    exact h)
  have HYes := hide (fun (hf : frm (nds ps) (ps.length - 1) = 0) (hw : 0 ≤ wid ts ps (ps.length - 1) 0) => planE_yes (ts := ts) (ps := ps) ⟨hd, by omega, by omega, hf, hw⟩)
  have HN1 := hide (fun (hf : frm (nds ps) (ps.length - 1) ≠ 0) => unhide HNo (fun h => hf h.all))
  have HN2 := hide (fun (hf : wid ts ps (ps.length - 1) 0 < 0) => unhide HNo (fun h => by have := h.wide; omega))
  have hwr := (wid_range ts ps (ps.length - 1) 0).1
  have hwr2 : wid ts ps (ps.length - 1) 0 ≤ 200 := by have := (wid_range ts ps (ps.length - 1) 0).2; omega
  have hfl := frm_le (nds ps) (ps.length - 1)
  have hf0 := hfl.1
  have hf1 := hfl.2
  clear HNo hn ht hsm fit hd hk hfl
  generalize planE ts ps = E at *
  generalize frm (nds ps) (ps.length - 1) = f at *
  generalize wid ts ps (ps.length - 1) 0 = z at *
  cases bf : (f != 0)
  · have hf : f = 0 := by simpa using bf
    have HWa := hide (unhide HW hf)
    have HY := hide (unhide HYes hf)
    clear HW HYes HN1 bf
    subst hf
    by_cases hz : z < 0
    · have HE := hide (unhide HN2 hz)
      clear HN2 HY
      go_enter Tryz.func43, Tryz.ntmps43
      go_wp2_with fail
      refine (unhide HDb _ (bA (bA (Below.refl _ _) _) _)).mono ?_; rintro e w1 ⟨rfl, hb⟩
      have n1 := bT (bA (bA (Below.refl w.heap.size w) _) _) hb
      have F := PF.of (s := w.heap.size) (g := g) (np := ps.length) (cap := cap) (gt := gt) (nt := ts.length) (capt := capt) ⟨by simp [go_sem], by simp [go_sem], by simp⟩ hb
      clear hb
      obtain ⟨fp, fd, fs⟩ := id F
      go_wp2_with fail
      refine (unhide HF _ n1).mono ?_; rintro e w2 ⟨rfl, hb⟩
      have n2 := bT n1 hb
      have F2 := F.of hb
      clear hb fp fd fs
      obtain ⟨fp, fd, fs⟩ := id F2
      go_wp2_with fail
      refine (unhide HWa _ n2).mono ?_; rintro e w3 ⟨rfl, hb⟩
      have n3 := bT n2 hb
      go_wp2
      go_ret2
      exact ⟨(unhide HE).symm, n3⟩
    · have HE := hide (unhide HY (by omega))
      clear HN2 HY
      go_enter Tryz.func43, Tryz.ntmps43
      go_wp2_with fail
      refine (unhide HDb _ (bA (bA (Below.refl _ _) _) _)).mono ?_; rintro e w1 ⟨rfl, hb⟩
      have n1 := bT (bA (bA (Below.refl w.heap.size w) _) _) hb
      have F := PF.of (s := w.heap.size) (g := g) (np := ps.length) (cap := cap) (gt := gt) (nt := ts.length) (capt := capt) ⟨by simp [go_sem], by simp [go_sem], by simp⟩ hb
      clear hb
      obtain ⟨fp, fd, fs⟩ := id F
      go_wp2_with fail
      refine (unhide HF _ n1).mono ?_; rintro e w2 ⟨rfl, hb⟩
      have n2 := bT n1 hb
      have F2 := F.of hb
      clear hb fp fd fs
      obtain ⟨fp, fd, fs⟩ := id F2
      go_wp2_with fail
      refine (unhide HWa _ n2).mono ?_; rintro e w3 ⟨rfl, hb⟩
      have n3 := bT n2 hb
      go_wp2
      go_ret2
      exact ⟨(unhide HE).symm, n3⟩
  · have HE := hide (unhide HN1 (by simpa using bf))
    clear HW HYes HN1 HN2
    go_enter Tryz.func43, Tryz.ntmps43
    go_wp2_with fail
    refine (unhide HDb _ (bA (bA (Below.refl _ _) _) _)).mono ?_; rintro e w1 ⟨rfl, hb⟩
    have n1 := bT (bA (bA (Below.refl w.heap.size w) _) _) hb
    have F := PF.of (s := w.heap.size) (g := g) (np := ps.length) (cap := cap) (gt := gt) (nt := ts.length) (capt := capt) ⟨by simp [go_sem], by simp [go_sem], by simp⟩ hb
    clear hb
    obtain ⟨fp, fd, fs⟩ := id F
    go_wp2_with fail
    refine (unhide HF _ n1).mono ?_; rintro e w2 ⟨rfl, hb⟩
    have n2 := bT n1 hb
    go_wp2
    go_ret2
    exact ⟨(unhide HE).symm, n2⟩
end Go.Proofs.YtnchcndcinpalaaGreatDoor
