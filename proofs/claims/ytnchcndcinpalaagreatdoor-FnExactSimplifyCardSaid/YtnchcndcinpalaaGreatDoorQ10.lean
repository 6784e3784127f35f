import Derived.Test.YtnchcndcinpalaaGreatDoorQ5
import Derived.Test.YtnchcndcinpalaaGreatDoorQ9
/-
  FLAT PLANS as functions of the list of nodes: which are valid, and how wide their nodes are.
-/
namespace Go.Proofs.YtnchcndcinpalaaGreatDoor
open Go Go.RowKit

abbrev twoK (k : Int) : Prop := k = 5 ∨ k = 6 ∨ k = 7 ∨ k = 9 ∨ k = 10 ∨ k = 11
abbrev oneK (k : Int) : Prop := k = 3 ∨ k = 4 ∨ k = 8 ∨ k = 5 ∨ k = 6 ∨ k = 7 ∨ k = 9 ∨ k = 10 ∨ k = 11
abbrev matK (k : Int) : Prop := k = 5 ∨ k = 6 ∨ k = 7 ∨ k = 10 ∨ k = 11
abbrev exK (k m : Int) : Prop := k = 3 ∨ k = 6 ∨ k = 10 ∨ k = 11 ∨ (k = 7 ∧ m ≠ 1)
/-- the fields of the node at place i, as far as no width is needed -/
def FldF (nt i : Nat) (K T M W : Int) (le ls : Nat) (L R : Int) : Prop :=
  1 ≤ K ∧ K ≤ 11 ∧ (K = 2 → 0 ≤ T ∧ T < (nt : Int)) ∧ (K ≠ 2 → T = 0) ∧ (K = 7 → 1 ≤ M ∧ M ≤ 4) ∧ (K ≠ 7 → M = 0) ∧
  (oneK K → 0 ≤ L ∧ L < (i : Int)) ∧ (¬ oneK K → L = 0) ∧ (twoK K → 0 ≤ R ∧ R < (i : Int)) ∧ (¬ twoK K → R = 0) ∧ (¬ matK K → W = 0) ∧ (exK K M ∨ le = 0) ∧ (K = 4 ∨ ls = 0)
abbrev FldP (nt i : Nat) (p : Fn) : Prop := FldF nt i p.K p.T p.M p.W p.Ex.length p.Exs.length p.L p.R
/-- what the widths of the kids must be -/
def SidP (p : Fn) (l r : Int) : Prop :=
  (matK p.K → 0 ≤ p.W ∧ p.W ≤ l ∧ p.W ≤ r) ∧ (exK p.K p.M → exOk (if p.K = 3 then l else r) p.Ex = true) ∧ (∀ xs ∈ p.Exs, exOk l xs = true) ∧ (p.K = 9 → l = r)
/-- the width of a node by its kids' -/
def stepF (ts : List Tb) (p : Fn) (l r : Int) : Int :=
  if p.K = 1 then 0 else if p.K = 2 then colsAt ts p.T else if p.K = 4 then (p.Exs.length : Int) else if p.K = 5 then l + r - p.W else if p.K = 6 ∨ p.K = 7 then l + 1 else l
def fw (ts : List Tb) (fs : List Fn) (i : Nat) : Int :=
  match fs[i]? with
  | none => 0
  | some p => stepF ts p (if _h : p.L.toNat < i then fw ts fs p.L.toNat else 0) (if _h : p.R.toNat < i then fw ts fs p.R.toNat else 0)
  termination_by i
theorem fw_at (ts : List Tb) {fs : List Fn} {i : Nat} (hi : i < fs.length) : fw ts fs i = stepF ts fs[i] (if (fs[i]).L.toNat < i then fw ts fs (fs[i]).L.toNat else 0) (if (fs[i]).R.toNat < i then fw ts fs (fs[i]).R.toNat else 0) := by
  conv => lhs; rw [fw]
  rw [List.getElem?_eq_getElem hi]
  dsimp only
  congr 1
/-- the kids' widths as a node sees them: 0 where it has none -/
def fl (ts : List Tb) (fs : List Fn) (p : Fn) : Int := if oneK p.K then fw ts fs p.L.toNat else 0
def fr (ts : List Tb) (fs : List Fn) (p : Fn) : Int := if twoK p.K then fw ts fs p.R.toNat else 0
structure NodF (ts : List Tb) (fs : List Fn) (i : Nat) (p : Fn) : Prop where
  fld : FldP ts.length i p
  sid : SidP p (fl ts fs p) (fr ts fs p)
  wide : fw ts fs i ≤ 200
theorem stepF_congr (ts : List Tb) (p : Fn) {l r l' r' : Int} (hl : oneK p.K → l = l') (hr : twoK p.K → r = r') (hk : 1 ≤ p.K ∧ p.K ≤ 11) : stepF ts p l r = stepF ts p l' r' := by
  unfold stepF
  split
  · rfl
  split
  · rfl
  split
  · rfl
  split
  · rw [hl (by omega), hr (by omega)]
  split
  · rw [hl (by omega)]
  · rw [hl (by omega)]
theorem fw_step {ts : List Tb} {fs : List Fn} {i : Nat} (hi : i < fs.length) (hF : FldP ts.length i fs[i]) : fw ts fs i = stepF ts fs[i] (fl ts fs fs[i]) (fr ts fs fs[i]) := by
  rw [fw_at ts hi]
  obtain ⟨k1, k2, _, _, _, _, hl, _, hr, _⟩ := hF
  refine stepF_congr ts _ (fun h => ?_) (fun h => ?_) ⟨k1, k2⟩
  · have := hl h
    rw [if_pos (by omega)]
    unfold fl
    rw [if_pos h]
  · have := hr h
    rw [if_pos (by omega)]
    unfold fr
    rw [if_pos h]
/-- valid as far as place k -/
def OkTo (ts : List Tb) (fs : List Fn) (k : Nat) : Prop := ∀ (i : Nat) (hi : i < fs.length), i < k → NodF ts fs i fs[i]
theorem fw_range {ts : List Tb} (hd : DbV ts) {fs : List Fn} : ∀ (n : Nat), OkTo ts fs n → ∀ i, i < n → i < fs.length → 0 ≤ fw ts fs i ∧ fw ts fs i ≤ 200 := by
  intro n
  induction n with
  | zero => intro _ i hi; omega
  | succ n ih =>
    intro hok i hin hi
    have ih' := ih (fun j hj hjn => hok j hj (by omega))
    have hN := hok i hi hin
    refine ⟨?_, hN.wide⟩
    rw [fw_step hi hN.fld]
    obtain ⟨k1, k2, t1, _, _, _, hl, _, hr, _⟩ := hN.fld
    have hs := hN.sid
    have hl0 : 0 ≤ fl ts fs fs[i] := by
      unfold fl
      split
      · have := hl (by assumption)
        exact (ih' _ (by omega) (by omega)).1
      · omega
    have hr0 : 0 ≤ fr ts fs fs[i] := by
      unfold fr
      split
      · have := hr (by assumption)
        exact (ih' _ (by omega) (by omega)).1
      · omega
    unfold stepF
    split
    · omega
    split
    · have := colsAt_pos hd (t1 (by assumption)).1 (t1 (by assumption)).2
      omega
    split
    · omega
    split
    · have := hs.1 (by omega)
      omega
    split <;> omega
structure FlatV (ts : List Tb) (fs : List Fn) (Rt : Int) : Prop where
  db : DbV ts
  some : 1 ≤ fs.length
  few : fs.length ≤ 8000
  root0 : 0 ≤ Rt
  root1 : Rt < (fs.length : Int)
  all : OkTo ts fs fs.length
open Classical in
noncomputable def flatW (ts : List Tb) (fs : List Fn) (Rt : Int) : Int := if FlatV ts fs Rt then fw ts fs Rt.toNat else 0
noncomputable def flatE (ts : List Tb) (fs : List Fn) (Rt : Int) : Ending := .returned (.tuple #[.int .i64 (flatW ts fs Rt), .bool (dB (FlatV ts fs Rt))])
theorem flatE_no {ts : List Tb} {fs : List Fn} {Rt : Int} (h : ¬ FlatV ts fs Rt) : flatE ts fs Rt = .returned (.tuple #[.int .i64 0, .bool false]) := by
  unfold flatE flatW
  rw [if_neg h, dB_false h]
theorem flatE_yes {ts : List Tb} {fs : List Fn} {Rt : Int} (h : FlatV ts fs Rt) : flatE ts fs Rt = .returned (.tuple #[.int .i64 (fw ts fs Rt.toNat), .bool true]) := by
  unfold flatE flatW
  rw [if_pos h, dB_true h]
theorem OkTo.zero (ts : List Tb) (fs : List Fn) : OkTo ts fs 0 := fun i _ h => by omega
theorem OkTo.succ {ts : List Tb} {fs : List Fn} {k : Nat} (h : OkTo ts fs k) (hk : k < fs.length) (hN : NodF ts fs k fs[k]) : OkTo ts fs (k + 1) := fun i hi hik => by
  by_cases e : i = k
  · subst e; exact hN
  · exact h i hi (by omega)
theorem kids_range {ts : List Tb} (hd : DbV ts) {fs : List Fn} {k : Nat} (h : OkTo ts fs k) {p : Fn} (hF : FldP ts.length k p) (hk : k ≤ fs.length) : 0 ≤ fl ts fs p ∧ fl ts fs p ≤ 200 ∧ 0 ≤ fr ts fs p ∧ fr ts fs p ≤ 200 := by
  obtain ⟨k1, k2, t1, _, _, _, hl, _, hr, _⟩ := hF
  have e1 : 0 ≤ fl ts fs p ∧ fl ts fs p ≤ 200 := by
    unfold fl
    split
    · have := hl (by assumption)
      exact fw_range hd k h _ (by omega) (by omega)
    · omega
  have e2 : 0 ≤ fr ts fs p ∧ fr ts fs p ≤ 200 := by
    unfold fr
    split
    · have := hr (by assumption)
      exact fw_range hd k h _ (by omega) (by omega)
    · omega
  exact ⟨e1.1, e1.2, e2.1, e2.2⟩
open Classical in
/-- the specification's answer for a node: its width, or -1 -/
noncomputable def nodF (ts : List Tb) (p : Fn) (l r : Int) : Int := if SidP p l r then stepF ts p l r else -1
theorem stepF_nonneg {ts : List Tb} (hd : DbV ts) {i : Nat} {p : Fn} (hF : FldP ts.length i p) {l r : Int} (hl : 0 ≤ l) (_hr : 0 ≤ r) (hS : SidP p l r) : 0 ≤ stepF ts p l r := by
  obtain ⟨k1, k2, t1, _⟩ := hF
  unfold stepF
  split
  · omega
  split
  · have := colsAt_pos hd (t1 (by assumption)).1 (t1 (by assumption)).2
    omega
  split
  · omega
  split
  · have := hS.1 (by omega)
    omega
  split <;> omega
theorem stepF_le {ts : List Tb} (hd : DbV ts) {i : Nat} {p : Fn} (hF : FldP ts.length i p) (hx : p.Exs.length ≤ 1048576) {l r : Int} (hl : 0 ≤ l ∧ l ≤ 200) (hr : 0 ≤ r ∧ r ≤ 200) (hS : SidP p l r) : stepF ts p l r ≤ 1048576 := by
  obtain ⟨k1, k2, t1, _⟩ := hF
  unfold stepF
  split
  · omega
  split
  · have := colsAt_pos hd (t1 (by assumption)).1 (t1 (by assumption)).2
    omega
  split
  · omega
  split
  · have := hS.1 (by omega)
    omega
  split <;> omega
end Go.Proofs.YtnchcndcinpalaaGreatDoor
/-
  WHAT A KIND OF FLAT OPERATOR USES, as the specification says it.
-/
namespace Go.Proofs.YtnchcndcinpalaaGreatDoor
open Go Go.RowKit

set_option maxHeartbeats 2000000 in
theorem l4Two_calls (k : Int) (w : World) : Calls Tryz.prog 56 #[.int .i64 k] w fun e w' => e = .returned (.bool (decide (twoK k))) ∧ w' = w := by
  have hc : k = 3 ∨ k = 4 ∨ k = 5 ∨ k = 6 ∨ k = 7 ∨ k = 8 ∨ k = 9 ∨ k = 10 ∨ k = 11 ∨ (k ≠ 3 ∧ k ≠ 4 ∧ k ≠ 5 ∧ k ≠ 6 ∧ k ≠ 7 ∧ k ≠ 8 ∧ k ≠ 9 ∧ k ≠ 10 ∧ k ≠ 11) := by omega
  rcases hc with rfl | rfl | rfl | rfl | rfl | rfl | rfl | rfl | rfl | ⟨h3, h4, h5, h6, h7, h8, h9, h10, h11⟩
  · have HE : Hid (decide (twoK 3) = false) := by show _ = _; decide
    go_enter Tryz.func56, Tryz.ntmps56
    go_wp2
    go_ret
    exact ⟨congrArg (fun z => Ending.returned (.bool z)) HE.out.symm, by first | rfl | trivial⟩
  · have HE : Hid (decide (twoK 4) = false) := by show _ = _; decide
    go_enter Tryz.func56, Tryz.ntmps56
    go_wp2
    go_ret
    exact ⟨congrArg (fun z => Ending.returned (.bool z)) HE.out.symm, by first | rfl | trivial⟩
  · have HE : Hid (decide (twoK 5) = true) := by show _ = _; decide
    go_enter Tryz.func56, Tryz.ntmps56
    go_wp2
    go_ret
    exact ⟨congrArg (fun z => Ending.returned (.bool z)) HE.out.symm, by first | rfl | trivial⟩
  · have HE : Hid (decide (twoK 6) = true) := by show _ = _; decide
    go_enter Tryz.func56, Tryz.ntmps56
    go_wp2
    go_ret
    exact ⟨congrArg (fun z => Ending.returned (.bool z)) HE.out.symm, by first | rfl | trivial⟩
  · have HE : Hid (decide (twoK 7) = true) := by show _ = _; decide
    go_enter Tryz.func56, Tryz.ntmps56
    go_wp2
    go_ret
    exact ⟨congrArg (fun z => Ending.returned (.bool z)) HE.out.symm, by first | rfl | trivial⟩
  · have HE : Hid (decide (twoK 8) = false) := by show _ = _; decide
    go_enter Tryz.func56, Tryz.ntmps56
    go_wp2
    go_ret
    exact ⟨congrArg (fun z => Ending.returned (.bool z)) HE.out.symm, by first | rfl | trivial⟩
  · have HE : Hid (decide (twoK 9) = true) := by show _ = _; decide
    go_enter Tryz.func56, Tryz.ntmps56
    go_wp2
    go_ret
    exact ⟨congrArg (fun z => Ending.returned (.bool z)) HE.out.symm, by first | rfl | trivial⟩
  · have HE : Hid (decide (twoK 10) = true) := by show _ = _; decide
    go_enter Tryz.func56, Tryz.ntmps56
    go_wp2
    go_ret
    exact ⟨congrArg (fun z => Ending.returned (.bool z)) HE.out.symm, by first | rfl | trivial⟩
  · have HE : Hid (decide (twoK 11) = true) := by show _ = _; decide
    go_enter Tryz.func56, Tryz.ntmps56
    go_wp2
    go_ret
    exact ⟨congrArg (fun z => Ending.returned (.bool z)) HE.out.symm, by first | rfl | trivial⟩
  · have HE : Hid (decide (twoK k) = false) := by show _ = _; exact decide_eq_false (by omega)
    have q3 : (k == 3) = false := beq_eq_false_iff_ne.2 h3
    have q4 : (k == 4) = false := beq_eq_false_iff_ne.2 h4
    have q5 : (k == 5) = false := beq_eq_false_iff_ne.2 h5
    have q6 : (k == 6) = false := beq_eq_false_iff_ne.2 h6
    have q7 : (k == 7) = false := beq_eq_false_iff_ne.2 h7
    have q8 : (k == 8) = false := beq_eq_false_iff_ne.2 h8
    have q9 : (k == 9) = false := beq_eq_false_iff_ne.2 h9
    have q10 : (k == 10) = false := beq_eq_false_iff_ne.2 h10
    have q11 : (k == 11) = false := beq_eq_false_iff_ne.2 h11
    go_enter Tryz.func56, Tryz.ntmps56
    go_wp2
    go_ret
    exact ⟨congrArg (fun z => Ending.returned (.bool z)) HE.out.symm, by first | rfl | trivial⟩
set_option maxHeartbeats 2000000 in
theorem l4One_calls (k : Int) (w : World) : Calls Tryz.prog 55 #[.int .i64 k] w fun e w' => e = .returned (.bool (decide (oneK k))) ∧ w' = w := by
  have HI := hide (fun W => l4Two_calls k W)
  have hc : k = 3 ∨ k = 4 ∨ k = 5 ∨ k = 6 ∨ k = 7 ∨ k = 8 ∨ k = 9 ∨ k = 10 ∨ k = 11 ∨ (k ≠ 3 ∧ k ≠ 4 ∧ k ≠ 5 ∧ k ≠ 6 ∧ k ≠ 7 ∧ k ≠ 8 ∧ k ≠ 9 ∧ k ≠ 10 ∧ k ≠ 11) := by omega
  rcases hc with rfl | rfl | rfl | rfl | rfl | rfl | rfl | rfl | rfl | ⟨h3, h4, h5, h6, h7, h8, h9, h10, h11⟩
  · have HE : Hid (decide (oneK 3) = true) := by show _ = _; decide
    go_enter Tryz.func55, Tryz.ntmps55
    go_wp2_with fail
    refine (unhide HI _).mono ?_; rintro e w1 ⟨rfl, rfl⟩
    go_wp2
    go_ret
    exact ⟨congrArg (fun z => Ending.returned (.bool z)) HE.out.symm, by first | rfl | trivial⟩
  · have HE : Hid (decide (oneK 4) = true) := by show _ = _; decide
    go_enter Tryz.func55, Tryz.ntmps55
    go_wp2_with fail
    refine (unhide HI _).mono ?_; rintro e w1 ⟨rfl, rfl⟩
    go_wp2
    go_ret
    exact ⟨congrArg (fun z => Ending.returned (.bool z)) HE.out.symm, by first | rfl | trivial⟩
  · have HE : Hid (decide (oneK 5) = true) := by show _ = _; decide
    go_enter Tryz.func55, Tryz.ntmps55
    go_wp2_with fail
    refine (unhide HI _).mono ?_; rintro e w1 ⟨rfl, rfl⟩
    go_wp2
    go_ret
    exact ⟨congrArg (fun z => Ending.returned (.bool z)) HE.out.symm, by first | rfl | trivial⟩
  · have HE : Hid (decide (oneK 6) = true) := by show _ = _; decide
    go_enter Tryz.func55, Tryz.ntmps55
    go_wp2_with fail
    refine (unhide HI _).mono ?_; rintro e w1 ⟨rfl, rfl⟩
    go_wp2
    go_ret
    exact ⟨congrArg (fun z => Ending.returned (.bool z)) HE.out.symm, by first | rfl | trivial⟩
  · have HE : Hid (decide (oneK 7) = true) := by show _ = _; decide
    go_enter Tryz.func55, Tryz.ntmps55
    go_wp2_with fail
    refine (unhide HI _).mono ?_; rintro e w1 ⟨rfl, rfl⟩
    go_wp2
    go_ret
    exact ⟨congrArg (fun z => Ending.returned (.bool z)) HE.out.symm, by first | rfl | trivial⟩
  · have HE : Hid (decide (oneK 8) = true) := by show _ = _; decide
    go_enter Tryz.func55, Tryz.ntmps55
    go_wp2_with fail
    refine (unhide HI _).mono ?_; rintro e w1 ⟨rfl, rfl⟩
    go_wp2
    go_ret
    exact ⟨congrArg (fun z => Ending.returned (.bool z)) HE.out.symm, by first | rfl | trivial⟩
  · have HE : Hid (decide (oneK 9) = true) := by show _ = _; decide
    go_enter Tryz.func55, Tryz.ntmps55
    go_wp2_with fail
    refine (unhide HI _).mono ?_; rintro e w1 ⟨rfl, rfl⟩
    go_wp2
    go_ret
    exact ⟨congrArg (fun z => Ending.returned (.bool z)) HE.out.symm, by first | rfl | trivial⟩
  · have HE : Hid (decide (oneK 10) = true) := by show _ = _; decide
    go_enter Tryz.func55, Tryz.ntmps55
    go_wp2_with fail
    refine (unhide HI _).mono ?_; rintro e w1 ⟨rfl, rfl⟩
    go_wp2
    go_ret
    exact ⟨congrArg (fun z => Ending.returned (.bool z)) HE.out.symm, by first | rfl | trivial⟩
  · have HE : Hid (decide (oneK 11) = true) := by show _ = _; decide
    go_enter Tryz.func55, Tryz.ntmps55
    go_wp2_with fail
    refine (unhide HI _).mono ?_; rintro e w1 ⟨rfl, rfl⟩
    go_wp2
    go_ret
    exact ⟨congrArg (fun z => Ending.returned (.bool z)) HE.out.symm, by first | rfl | trivial⟩
  · have HE : Hid (decide (oneK k) = false) := by show _ = _; exact decide_eq_false (by omega)
    have HE2 : decide (twoK k) = false := decide_eq_false (by omega)
    have q3 : (k == 3) = false := beq_eq_false_iff_ne.2 h3
    have q4 : (k == 4) = false := beq_eq_false_iff_ne.2 h4
    have q5 : (k == 5) = false := beq_eq_false_iff_ne.2 h5
    have q6 : (k == 6) = false := beq_eq_false_iff_ne.2 h6
    have q7 : (k == 7) = false := beq_eq_false_iff_ne.2 h7
    have q8 : (k == 8) = false := beq_eq_false_iff_ne.2 h8
    have q9 : (k == 9) = false := beq_eq_false_iff_ne.2 h9
    have q10 : (k == 10) = false := beq_eq_false_iff_ne.2 h10
    have q11 : (k == 11) = false := beq_eq_false_iff_ne.2 h11
    rw [HE2] at HI
    go_enter Tryz.func55, Tryz.ntmps55
    go_wp2_with fail
    refine (unhide HI _).mono ?_; rintro e w1 ⟨rfl, rfl⟩
    go_wp2
    go_ret
    exact ⟨congrArg (fun z => Ending.returned (.bool z)) HE.out.symm, by first | rfl | trivial⟩
set_option maxHeartbeats 2000000 in
theorem l4Matches_calls (k : Int) (w : World) : Calls Tryz.prog 95 #[.int .i64 k] w fun e w' => e = .returned (.bool (decide (matK k))) ∧ w' = w := by
  have HI := hide (fun W => l4Two_calls k W)
  have hc : k = 3 ∨ k = 4 ∨ k = 5 ∨ k = 6 ∨ k = 7 ∨ k = 8 ∨ k = 9 ∨ k = 10 ∨ k = 11 ∨ (k ≠ 3 ∧ k ≠ 4 ∧ k ≠ 5 ∧ k ≠ 6 ∧ k ≠ 7 ∧ k ≠ 8 ∧ k ≠ 9 ∧ k ≠ 10 ∧ k ≠ 11) := by omega
  rcases hc with rfl | rfl | rfl | rfl | rfl | rfl | rfl | rfl | rfl | ⟨h3, h4, h5, h6, h7, h8, h9, h10, h11⟩
  · have HE : Hid (decide (matK 3) = false) := by show _ = _; decide
    go_enter Tryz.func95, Tryz.ntmps95
    go_wp2_with fail
    refine (unhide HI _).mono ?_; rintro e w1 ⟨rfl, rfl⟩
    go_wp2
    go_ret
    exact ⟨congrArg (fun z => Ending.returned (.bool z)) HE.out.symm, by first | rfl | trivial⟩
  · have HE : Hid (decide (matK 4) = false) := by show _ = _; decide
    go_enter Tryz.func95, Tryz.ntmps95
    go_wp2_with fail
    refine (unhide HI _).mono ?_; rintro e w1 ⟨rfl, rfl⟩
    go_wp2
    go_ret
    exact ⟨congrArg (fun z => Ending.returned (.bool z)) HE.out.symm, by first | rfl | trivial⟩
  · have HE : Hid (decide (matK 5) = true) := by show _ = _; decide
    go_enter Tryz.func95, Tryz.ntmps95
    go_wp2_with fail
    refine (unhide HI _).mono ?_; rintro e w1 ⟨rfl, rfl⟩
    go_wp2
    go_ret
    exact ⟨congrArg (fun z => Ending.returned (.bool z)) HE.out.symm, by first | rfl | trivial⟩
  · have HE : Hid (decide (matK 6) = true) := by show _ = _; decide
    go_enter Tryz.func95, Tryz.ntmps95
    go_wp2_with fail
    refine (unhide HI _).mono ?_; rintro e w1 ⟨rfl, rfl⟩
    go_wp2
    go_ret
    exact ⟨congrArg (fun z => Ending.returned (.bool z)) HE.out.symm, by first | rfl | trivial⟩
  · have HE : Hid (decide (matK 7) = true) := by show _ = _; decide
    go_enter Tryz.func95, Tryz.ntmps95
    go_wp2_with fail
    refine (unhide HI _).mono ?_; rintro e w1 ⟨rfl, rfl⟩
    go_wp2
    go_ret
    exact ⟨congrArg (fun z => Ending.returned (.bool z)) HE.out.symm, by first | rfl | trivial⟩
  · have HE : Hid (decide (matK 8) = false) := by show _ = _; decide
    go_enter Tryz.func95, Tryz.ntmps95
    go_wp2_with fail
    refine (unhide HI _).mono ?_; rintro e w1 ⟨rfl, rfl⟩
    go_wp2
    go_ret
    exact ⟨congrArg (fun z => Ending.returned (.bool z)) HE.out.symm, by first | rfl | trivial⟩
  · have HE : Hid (decide (matK 9) = false) := by show _ = _; decide
    go_enter Tryz.func95, Tryz.ntmps95
    go_wp2_with fail
    refine (unhide HI _).mono ?_; rintro e w1 ⟨rfl, rfl⟩
    go_wp2
    go_ret
    exact ⟨congrArg (fun z => Ending.returned (.bool z)) HE.out.symm, by first | rfl | trivial⟩
  · have HE : Hid (decide (matK 10) = true) := by show _ = _; decide
    go_enter Tryz.func95, Tryz.ntmps95
    go_wp2_with fail
    refine (unhide HI _).mono ?_; rintro e w1 ⟨rfl, rfl⟩
    go_wp2
    go_ret
    exact ⟨congrArg (fun z => Ending.returned (.bool z)) HE.out.symm, by first | rfl | trivial⟩
  · have HE : Hid (decide (matK 11) = true) := by show _ = _; decide
    go_enter Tryz.func95, Tryz.ntmps95
    go_wp2_with fail
    refine (unhide HI _).mono ?_; rintro e w1 ⟨rfl, rfl⟩
    go_wp2
    go_ret
    exact ⟨congrArg (fun z => Ending.returned (.bool z)) HE.out.symm, by first | rfl | trivial⟩
  · have HE : Hid (decide (matK k) = false) := by show _ = _; exact decide_eq_false (by omega)
    have HE2 : decide (twoK k) = false := decide_eq_false (by omega)
    have q3 : (k == 3) = false := beq_eq_false_iff_ne.2 h3
    have q4 : (k == 4) = false := beq_eq_false_iff_ne.2 h4
    have q5 : (k == 5) = false := beq_eq_false_iff_ne.2 h5
    have q6 : (k == 6) = false := beq_eq_false_iff_ne.2 h6
    have q7 : (k == 7) = false := beq_eq_false_iff_ne.2 h7
    have q8 : (k == 8) = false := beq_eq_false_iff_ne.2 h8
    have q9 : (k == 9) = false := beq_eq_false_iff_ne.2 h9
    have q10 : (k == 10) = false := beq_eq_false_iff_ne.2 h10
    have q11 : (k == 11) = false := beq_eq_false_iff_ne.2 h11
    rw [HE2] at HI
    go_enter Tryz.func95, Tryz.ntmps95
    go_wp2_with fail
    refine (unhide HI _).mono ?_; rintro e w1 ⟨rfl, rfl⟩
    go_wp2
    go_ret
    exact ⟨congrArg (fun z => Ending.returned (.bool z)) HE.out.symm, by first | rfl | trivial⟩
set_option maxHeartbeats 2000000 in
theorem l4UsesEx_calls (K T M Wd L R : Int) (v4 v5 : Value) (w : World) : Calls Tryz.prog 96 #[.agg #[.int .i64 K, .int .i64 T, .int .i64 M, .int .i64 Wd, v4, v5, .int .i64 L, .int .i64 R]] w fun e w' => e = .returned (.bool (decide (exK K M))) ∧ Below w.heap.size w w' := by
  have hc : K = 3 ∨ K = 6 ∨ K = 10 ∨ K = 11 ∨ K = 7 ∨ (K ≠ 3 ∧ K ≠ 6 ∧ K ≠ 10 ∧ K ≠ 11 ∧ K ≠ 7) := by omega
  rcases hc with rfl | rfl | rfl | rfl | rfl | ⟨h3, h6, h10, h11, h7⟩
  · have HE : Hid (decide (exK 3 M) = true) := by show _ = _; exact decide_eq_true (by unfold exK; omega)
    go_enter Tryz.func96, Tryz.ntmps96
    go_wp2
    go_ret
    exact ⟨congrArg (fun z => Ending.returned (.bool z)) HE.out.symm, bA (Below.refl _ _) _⟩
  · have HE : Hid (decide (exK 6 M) = true) := by show _ = _; exact decide_eq_true (by unfold exK; omega)
    go_enter Tryz.func96, Tryz.ntmps96
    go_wp2
    go_ret
    exact ⟨congrArg (fun z => Ending.returned (.bool z)) HE.out.symm, bA (Below.refl _ _) _⟩
  · have HE : Hid (decide (exK 10 M) = true) := by show _ = _; exact decide_eq_true (by unfold exK; omega)
    go_enter Tryz.func96, Tryz.ntmps96
    go_wp2
    go_ret
    exact ⟨congrArg (fun z => Ending.returned (.bool z)) HE.out.symm, bA (Below.refl _ _) _⟩
  · have HE : Hid (decide (exK 11 M) = true) := by show _ = _; exact decide_eq_true (by unfold exK; omega)
    go_enter Tryz.func96, Tryz.ntmps96
    go_wp2
    go_ret
    exact ⟨congrArg (fun z => Ending.returned (.bool z)) HE.out.symm, bA (Below.refl _ _) _⟩
  · by_cases hM : M = 1
    · subst hM
      have HE : Hid (decide (exK 7 1) = false) := by show _ = _; decide
      go_enter Tryz.func96, Tryz.ntmps96
      go_wp2
      go_ret
      exact ⟨congrArg (fun z => Ending.returned (.bool z)) HE.out.symm, bA (Below.refl _ _) _⟩
    · have hM' : (M != 1) = true := by simp [hM]
      have HE : Hid (decide (exK 7 M) = true) := by show _ = _; exact decide_eq_true (by unfold exK; omega)
      go_enter Tryz.func96, Tryz.ntmps96
      go_wp2
      go_ret
      exact ⟨congrArg (fun z => Ending.returned (.bool z)) HE.out.symm, bA (Below.refl _ _) _⟩
  · have HE : Hid (decide (exK K M) = false) := by show _ = _; exact decide_eq_false (by unfold exK; omega)
    have q3 : (K == 3) = false := beq_eq_false_iff_ne.2 h3
    have q6 : (K == 6) = false := beq_eq_false_iff_ne.2 h6
    have q10 : (K == 10) = false := beq_eq_false_iff_ne.2 h10
    have q11 : (K == 11) = false := beq_eq_false_iff_ne.2 h11
    have q7 : (K == 7) = false := beq_eq_false_iff_ne.2 h7
    go_enter Tryz.func96, Tryz.ntmps96
    go_wp2
    go_ret
    exact ⟨congrArg (fun z => Ending.returned (.bool z)) HE.out.symm, bA (Below.refl _ _) _⟩
end Go.Proofs.YtnchcndcinpalaaGreatDoor
