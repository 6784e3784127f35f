import Derived.Test.YtnchcndcinpalaaGreatDoorQ31
import Derived.Test.YtnchcndcinpalaaGreatDoorQ2
import Derived.BigQuiet
import Derived.Deep.RegionHeld3
import Derived.Deep.DeepCutAuto
import Derived.Test.YtnchcndcinpalaaGreatDoorQ4
import Derived.Test.YtnchcndcinpalaaGreatDoorQ20
import Derived.Test.YtnchcndcinpalaaGreatDoorSimpGrow
/-
  USES COUNTED AND USERS COUNTED.
-/
namespace Go.Proofs.YtnchcndcinpalaaGreatDoor
open Go Go.RowKit

theorem bump_get {xs : List Int} {i : Int} {q : Nat} (h0 : 0 ≤ i) (h1 : i < (xs.length : Int)) : (bump xs i).getD q 0 = xs.getD q 0 + (if i = (q : Int) then 1 else 0) := by
  unfold bump
  rw [List.getD_eq_getElem?_getD, List.getElem?_set, List.getD_eq_getElem?_getD, List.getD_eq_getElem?_getD]
  by_cases e : i.toNat = q
  · rw [if_pos e, if_pos (by omega), if_pos (by omega), e]; rfl
  · rw [if_neg e, if_neg (by omega)]; omega
theorem bumps_get (l : List Int) : ∀ (xs : List Int) (q : Nat), (∀ x ∈ l, 0 ≤ x ∧ x < (xs.length : Int)) → (l.foldl bump xs).getD q 0 = xs.getD q 0 + (l.count (q : Int) : Int) ∧ (l.foldl bump xs).length = xs.length := by
  induction l with
  | nil => intro xs q _; simp
  | cons y l ih =>
    intro xs q h
    have hy := h y (by simp)
    have := ih (bump xs y) q (fun x hx => by rw [bump_length]; exact h x (by simp [hx]))
    rw [List.foldl_cons]
    refine ⟨?_, by rw [this.2, bump_length]⟩
    rw [this.1, bump_get hy.1 hy.2, List.count_cons]
    by_cases e : y = (q : Int)
    · simp [e]; omega
    · simp [e]
noncomputable def useC (fs : List Fn) (q : Int) : Nat := (fs.map fun p => (kidsL p).count q).sum
theorem useC_append (a b : List Fn) (q : Int) : useC (a ++ b) q = useC a q + useC b q := by simp [useC]
theorem useC_cons (p : Fn) (b : List Fn) (q : Int) : useC (p :: b) q = (kidsL p).count q + useC b q := by simp [useC]
def userC (fs : List Fn) (q : Int) : Nat := (fs.filter fun p => usesB p q).length
theorem userC_append (a b : List Fn) (q : Int) : userC (a ++ b) q = userC a q + userC b q := by simp [userC]
theorem kids_two_one {K : Int} (h : twoK K) : oneK K := by unfold oneK; unfold twoK at h; omega
theorem usesB_count (p : Fn) (q : Int) : usesB p q = true ↔ 0 < (kidsL p).count q := by
  rw [List.count_pos_iff]
  unfold usesB kidsL
  rw [decide_eq_true_iff]
  by_cases h2 : twoK p.K
  · have h1 := kids_two_one h2
    simp [h1, h2, eq_comm, or_comm]
  · by_cases h1 : oneK p.K
    · simp [h1, h2, eq_comm]
    · simp [h1, h2]
theorem userC_cons (p : Fn) (b : List Fn) (q : Int) : userC (p :: b) q = (if usesB p q = true then 1 else 0) + userC b q := by
  unfold userC
  by_cases h : usesB p q = true
  · simp [h]; omega
  · simp [h]
theorem userC_le (fs : List Fn) (q : Int) : userC fs q ≤ useC fs q := by
  induction fs with
  | nil => simp [userC]
  | cons p b ih =>
    rw [useC_cons, userC_cons]
    split
    · have := (usesB_count p q).1 (by assumption); omega
    · omega
theorem useC_zero (fs : List Fn) (q : Int) (h : userC fs q = 0) : useC fs q = 0 := by
  induction fs with
  | nil => simp [useC]
  | cons p b ih =>
    rw [userC_cons] at h
    rw [useC_cons]
    by_cases hp : usesB p q = true
    · rw [if_pos hp] at h; omega
    · rw [if_neg hp] at h
      have : ¬ 0 < (kidsL p).count q := fun hc => hp ((usesB_count p q).2 hc)
      have := ih (by omega)
      omega
theorem split_at (fs : List Fn) (j : Nat) (hj : j < fs.length) : fs = fs.take j ++ fs[j] :: fs.drop (j + 1) := by
  rw [List.getElem_cons_drop, List.take_append_drop]
/-- a node that one select uses, and uses of which are counted: one use alone is one user alone -/
theorem one_use {fs : List Fn} {j : Nat} {q : Int} (hj : j < fs.length) (h1 : (kidsL fs[j]).count q = 1) : useC fs q ≤ 1 ↔ users fs q = 1 := by
  have hu : users fs q = userC fs q := by simp [users, usersTo, userC]
  have hsp := split_at fs j hj
  have hp : usesB fs[j] q = true := (usesB_count _ _).2 (by omega)
  have e1 : useC fs q = useC (fs.take j) q + (1 + useC (fs.drop (j + 1)) q) := by
    conv => lhs; rw [hsp]
    rw [useC_append, useC_cons, h1]
  have e2 : userC fs q = userC (fs.take j) q + (1 + userC (fs.drop (j + 1)) q) := by
    conv => lhs; rw [hsp]
    rw [userC_append, userC_cons, if_pos hp]
  have l1 := userC_le (fs.take j) q
  have l2 := userC_le (fs.drop (j + 1)) q
  rw [hu]
  constructor
  · intro h; omega
  · intro h
    have := useC_zero _ _ (show userC (fs.take j) q = 0 by omega)
    have := useC_zero _ _ (show userC (fs.drop (j + 1)) q = 0 by omega)
    omega
theorem asksRow_get {ts : List Tb} {fs : List Fn} (hok : OkTo ts fs fs.length) (q : Nat) : ∀ k, k ≤ fs.length → (asksRow fs k).getD q 0 = (useC (fs.take k) (q : Int) : Int) ∧ (asksRow fs k).length = fs.length := fun k => by
  induction k with
  | zero => intro _; rw [asksRow_zero, getD_replicate0]; simp [useC]
  | succ k ih =>
    intro hk
    obtain ⟨i1, i2⟩ := ih (by omega)
    obtain ⟨-, -, -, -, -, -, hl, -, hr, -⟩ := (hok k (by omega) (by omega)).fld
    have hin : ∀ x ∈ kidsL fs[k], 0 ≤ x ∧ x < ((asksRow fs k).length : Int) := fun x hx => by
      rw [i2]
      unfold kidsL at hx
      split at hx
      · have h2 := hr (by assumption)
        have h1 := hl (kids_two_one (by assumption))
        simp at hx
        rcases hx with rfl | rfl <;> omega
      · split at hx
        · have h1 := hl (by assumption)
          simp at hx
          subst hx
          omega
        · simp at hx
    obtain ⟨b1, b2⟩ := bumps_get (kidsL fs[k]) (asksRow fs k) q hin
    rw [asksRow_succ fs k (by omega), b1, b2, i1, i2, take_snocN fs k (by omega), useC_append, useC_cons]
    simp [useC]
end Go.Proofs.YtnchcndcinpalaaGreatDoor
/-
  slices.Equal AT INTS.
-/
namespace Go.Proofs.YtnchcndcinpalaaGreatDoor
open Go Go.RowKit

theorem take_ne {xs ys : List Int} {k : Nat} (h1 : k < xs.length) (h2 : k < ys.length) (h : xs[k] ≠ ys[k]) : xs ≠ ys := fun e => by subst e; exact h rfl
theorem eq_of_takes {xs ys : List Int} (hl : xs.length = ys.length) (h : xs.take xs.length = ys.take xs.length) : xs = ys := by
  rw [List.take_length, hl, List.take_length] at h; exact h

end Go.Proofs.YtnchcndcinpalaaGreatDoor
/-
  slices.Equal AT Ops, and the kind that a mark becomes.
-/
namespace Go.Proofs.YtnchcndcinpalaaGreatDoor
open Go Go.RowKit

theorem OpsAt.at2 {w : World} {g off : Nat} {xs : List O2} (h : OpsAt w g off xs) (k : Nat) (hk : k < xs.length) : w.cell? ⟨g, off + k * 2, none⟩ = some (.int .i64 (xs[k]).1) ∧ w.cell? ⟨g, off + k * 2 + 1, none⟩ = some (.int .i64 (xs[k]).2) := h k xs[k] (List.getElem?_eq_getElem hk)
theorem takeO_ne {xs ys : List O2} {k : Nat} (h1 : k < xs.length) (h2 : k < ys.length) (h : xs[k] ≠ ys[k]) : xs ≠ ys := fun e => by subst e; exact h rfl
theorem eq_of_takesO {xs ys : List O2} (hl : xs.length = ys.length) (h : xs.take xs.length = ys.take xs.length) : xs = ys := by
  rw [List.take_length, hl, List.take_length] at h; exact h

set_option maxHeartbeats 4000000 in
theorem slicesEqO_calls (xs ys : List O2) (g cap : Nat) (a2 : Option Addr) (cap2 : Nat) (w : World) (hg : g < w.heap.size) (hx : OpsAt w g 0 xs)
    (hy : ys = [] ∨ ∃ g2 off, a2 = some ⟨g2, off, none⟩ ∧ g2 < w.heap.size ∧ OpsAt w g2 off ys) (hl : xs.length ≤ 1048576) :
    Calls Tryz.prog 68 #[.slice (some ⟨g, 0, none⟩) xs.length cap, .slice a2 ys.length cap2] w fun e w' => e = .returned (.bool (decide (xs = ys))) ∧ Below w.heap.size w w' := by
  cases hne : ((xs.length : Int) != (ys.length : Int))
  · have hle : xs.length = ys.length := by simp at hne; omega
    have HL := hide hle
    have HY := hide hy
    clear hy hle
    go_enter Tryz.func68, Tryz.ntmps68
    go_wp2
    go_loopw [5, 13] (fun _ c wr => ∃ k : Nat, k ≤ xs.length ∧ c = .int .i64 k ∧ xs.take k = ys.take k ∧ Below w.heap.size w wr) (fun _ c _ => xs.length - (intOf c).toNat)
    case atStart => exact ⟨0, Nat.zero_le _, rfl, rfl, Below.refl _ _⟩
    case round =>
      obtain ⟨k, hk, rfl, ht, hb⟩ := hrel
      have HT := hide ht
      clear ht
      by_cases hlt : k < xs.length
      · have hlt2 : k < ys.length := by have := unhide HL; omega
        obtain ⟨g2, off, rfl, hg2, hyr⟩ : ∃ g2 off, a2 = some ⟨g2, off, none⟩ ∧ g2 < w.heap.size ∧ OpsAt w g2 off ys := by
          rcases unhide HY with h | h
          · subst h; simp at hlt2
          · exact h
        obtain ⟨x0, x1⟩ := (hx.of hg hb).at2 k hlt
        obtain ⟨y0, y1⟩ := (hyr.of hg2 hb).at2 k hlt2
        simp only [Nat.zero_add] at x0 x1
        have j1 : (k : Int) < (xs.length : Int) := by omega
        have j2 : (k : Int) < (ys.length : Int) := by omega
        have q1 : g < wr.heap.size := Nat.lt_of_lt_of_le hg hb.size
        have q2 : g2 < wr.heap.size := Nat.lt_of_lt_of_le hg2 hb.size
        have hnext : xs[k] = ys[k] → xs.take (k + 1) = ys.take (k + 1) := fun h => by rw [take_snocN xs k hlt, take_snocN ys k hlt2, unhide HT, h]
        have hbad : xs[k] ≠ ys[k] → decide (xs = ys) = false := fun h => decide_eq_false (takeO_ne hlt hlt2 h)
        generalize xs[k] = x at *
        generalize ys[k] = y at *
        obtain ⟨p1, p2⟩ := x
        obtain ⟨r1, r2⟩ := y
        simp only at x0 x1 y0 y1
        by_cases he : p1 = r1 ∧ p2 = r2
        · obtain ⟨rfl, rfl⟩ := he
          have HN := hide (hnext rfl)
          clear hnext hbad HT
          go_upto_region 6 with fail
          go_quiet (fail)
          go_wp2
          go_roundw
          case rel => exact ⟨k + 1, by omega, by go_num, unhide HN, below_drewN hb _⟩
          case measure => simp [intOf]; omega
        · have HB := hide (hbad (fun h => he (by simpa using h)))
          clear hnext hbad HT
          by_cases h1 : p1 = r1
          · subst h1
            have h2 : ¬ p2 = r2 := fun h => he ⟨rfl, h⟩
            have e2 : (p2 == r2) = false := by simp [h2]
            clear he
            go_upto_region 6 with fail
            go_quiet (fail)
            go_wp2
            go_ret
            exact ⟨congrArg (fun z => Ending.returned (.bool z)) (unhide HB).symm, below_drewN hb _⟩
          · have e1 : (p1 == r1) = false := by simp [h1]
            clear he
            go_upto_region 6 with fail
            go_quiet (fail)
            go_wp2
            go_ret
            exact ⟨congrArg (fun z => Ending.returned (.bool z)) (unhide HB).symm, below_drewN hb _⟩
      · obtain rfl : k = xs.length := by omega
        have HE : Hid (decide (xs = ys) = true) := decide_eq_true (eq_of_takesO (unhide HL) (unhide HT))
        clear HT
        go_wp2
        go_ret
        exact ⟨congrArg (fun z => Ending.returned (.bool z)) HE.out.symm, hb⟩
  · have HE : Hid (decide (xs = ys) = false) := decide_eq_false (fun e => by subst e; simp at hne)
    clear hy
    go_enter Tryz.func68, Tryz.ntmps68
    go_wp2
    go_ret
    exact ⟨congrArg (fun z => Ending.returned (.bool z)) HE.out.symm, Below.refl _ _⟩
end Go.Proofs.YtnchcndcinpalaaGreatDoor
/-
  THE KIND THAT A MARK BECOMES, as the program finds it.
-/
namespace Go.Proofs.YtnchcndcinpalaaGreatDoor
open Go Go.RowKit

def jkind (xs : List O2) (z : Int) : Int := if xs = [(3, z)] then 10 else if xs = [(3, z), (7, 0)] then 11 else 0
theorem opsAt_one {w : World} {x y : Int} (t : TypeId) : OpsAt (w.alloc (.cells #[.int .i64 x, .int .i64 y] t)) w.heap.size 0 [(x, y)] := fun i z hz => by
  have hi := (List.getElem?_eq_some_iff.1 hz).1
  simp at hi
  subst hi
  simp at hz
  subst hz
  simp [go_sem]
theorem opsAt_two {w : World} {x y x' y' : Int} (t : TypeId) : OpsAt (w.alloc (.cells #[.int .i64 x, .int .i64 y, .int .i64 x', .int .i64 y'] t)) w.heap.size 0 [(x, y), (x', y')] := fun i z hz => by
  have hi := (List.getElem?_eq_some_iff.1 hz).1
  simp at hi
  have : i = 0 ∨ i = 1 := by omega
  rcases this with rfl | rfl
  · simp at hz
    subst hz
    simp [go_sem]
  · simp at hz
    subst hz
    simp [go_sem]

set_option maxHeartbeats 4000000 in
theorem joinKind_calls (xs : List O2) (z : Int) (g cap : Nat) (w : World) (hg : g < w.heap.size) (hx : OpsAt w g 0 xs) (hl : xs.length ≤ 1048576) :
    Calls Tryz.prog 35 #[.slice (some ⟨g, 0, none⟩) xs.length cap, .int .i64 z] w fun e w' => e = .returned (.int .i64 (jkind xs z)) ∧ Below w.heap.size w w' := by
  have HE1 := hide (fun W (hb : Below w.heap.size w W) g2 (hg2 : g2 < W.heap.size) (hy : OpsAt W g2 0 [(3, z)]) => slicesEqO_calls xs [(3, z)] g cap (some ⟨g2, 0, none⟩) 1 W (Nat.lt_of_lt_of_le hg hb.size) (hx.of hg hb) (Or.inr ⟨g2, 0, rfl, hg2, hy⟩) hl)
  have HE2 := hide (fun W (hb : Below w.heap.size w W) g2 (hg2 : g2 < W.heap.size) (hy : OpsAt W g2 0 [(3, z), (7, 0)]) => slicesEqO_calls xs [(3, z), (7, 0)] g cap (some ⟨g2, 0, none⟩) 2 W (Nat.lt_of_lt_of_le hg hb.size) (hx.of hg hb) (Or.inr ⟨g2, 0, rfl, hg2, hy⟩) hl)
  have HV : Hid (jkind xs z = if xs = [(3, z)] then 10 else if xs = [(3, z), (7, 0)] then 11 else 0) := by
    show _ = _
    rfl
  generalize jkind xs z = J at *
  clear hx
  generalize xs.length = n at *
  have H1 := hide (bA (Below.refl w.heap.size w) (.cells #[.int .i64 3, .int .i64 z] 72))
  have H2 := hide (bA (unhide H1) (.cells #[.int .i64 3, .int .i64 z] 72))
  by_cases h1 : xs = [(3, z)]
  · rw [decide_eq_true h1] at HE1
    have HJ := hide ((unhide HV).trans (if_pos h1))
    clear HV HE2 h1
    go_enter Tryz.func35, Tryz.ntmps35
    go_wp2_with fail
    refine (unhide HE1 _ (unhide H2) _ (by simp) (by simpa using opsAt_one (w := w.alloc (.cells #[.int .i64 3, .int .i64 z] 72)) 72)).mono ?_; rintro e w1 ⟨rfl, hb1⟩
    have d1 := bT (unhide H2) hb1
    clear hb1
    go_wp2
    go_ret
    exact ⟨congrArg (fun z => Ending.returned (.int .i64 z)) (unhide HJ).symm, d1⟩
  · rw [decide_eq_false h1] at HE1
    have HW := hide ((unhide HV).trans (if_neg h1))
    clear HV h1
    by_cases h2 : xs = [(3, z), (7, 0)]
    · rw [decide_eq_true h2] at HE2
      have HJ := hide ((unhide HW).trans (if_pos h2))
      clear HW h2
      go_enter Tryz.func35, Tryz.ntmps35
      go_wp2_with fail
      refine (unhide HE1 _ (unhide H2) _ (by simp) (by simpa using opsAt_one (w := w.alloc (.cells #[.int .i64 3, .int .i64 z] 72)) 72)).mono ?_; rintro e w1 ⟨rfl, hb1⟩
      have d1 := bT (unhide H2) hb1
      have k0 : w1.cell? ⟨w.heap.size, 0, none⟩ = some (.int .i64 3) := (hb1.cell (p := ⟨w.heap.size, 0, none⟩) (by simp <;> omega)).trans (by simp [go_sem])
      have k1 : w1.cell? ⟨w.heap.size, 1, none⟩ = some (.int .i64 z) := (hb1.cell (p := ⟨w.heap.size, 1, none⟩) (by simp <;> omega)).trans (by simp [go_sem])
      have k2 : w.heap.size < w1.heap.size := by have := hb1.size; simp at this; omega
      have H3 := hide (bA d1 (.cells #[.int .i64 3, .int .i64 z, .int .i64 7, .int .i64 0] 72))
      clear hb1
      go_wp2_with fail
      refine (unhide HE2 _ (unhide H3) _ (by simp) (opsAt_two 72)).mono ?_; rintro e w3 ⟨rfl, hb3⟩
      have d3 := bT (unhide H3) hb3
      clear hb3
      go_wp2
      go_ret
      exact ⟨congrArg (fun z => Ending.returned (.int .i64 z)) (unhide HJ).symm, d3⟩
    · rw [decide_eq_false h2] at HE2
      have HJ := hide ((unhide HW).trans (if_neg h2))
      clear HW h2
      go_enter Tryz.func35, Tryz.ntmps35
      go_wp2_with fail
      refine (unhide HE1 _ (unhide H2) _ (by simp) (by simpa using opsAt_one (w := w.alloc (.cells #[.int .i64 3, .int .i64 z] 72)) 72)).mono ?_; rintro e w1 ⟨rfl, hb1⟩
      have d1 := bT (unhide H2) hb1
      have k0 : w1.cell? ⟨w.heap.size, 0, none⟩ = some (.int .i64 3) := (hb1.cell (p := ⟨w.heap.size, 0, none⟩) (by simp <;> omega)).trans (by simp [go_sem])
      have k1 : w1.cell? ⟨w.heap.size, 1, none⟩ = some (.int .i64 z) := (hb1.cell (p := ⟨w.heap.size, 1, none⟩) (by simp <;> omega)).trans (by simp [go_sem])
      have k2 : w.heap.size < w1.heap.size := by have := hb1.size; simp at this; omega
      have H3 := hide (bA d1 (.cells #[.int .i64 3, .int .i64 z, .int .i64 7, .int .i64 0] 72))
      clear hb1
      go_wp2_with fail
      refine (unhide HE2 _ (unhide H3) _ (by simp) (opsAt_two 72)).mono ?_; rintro e w3 ⟨rfl, hb3⟩
      have d3 := bT (unhide H3) hb3
      clear hb3
      go_wp2
      go_ret
      exact ⟨congrArg (fun z => Ending.returned (.int .i64 z)) (unhide HJ).symm, d3⟩
end Go.Proofs.YtnchcndcinpalaaGreatDoor
/-
  WHAT THE PROGRAM MAKES OF A SELECT OVER A MARK IS WHAT THE SPECIFICATION ASKS.
-/
namespace Go.Proofs.YtnchcndcinpalaaGreatDoor
open Go Go.RowKit

/-- the kind that the mark of a node's L becomes by the program's reckoning; 0: none -/
noncomputable def actK (ts : List Tb) (fs : List Fn) (Rt : Int) (p : Fn) : Int :=
  if p.K = 3 ∧ kindF fs p.L = 6 ∧ (bump (asksRow fs fs.length) Rt).getD p.L.toNat 0 ≤ 1 then jkind p.Ex (fw ts fs p.L.toNat - 1) else 0
theorem uses_iff {ts : List Tb} {fs : List Fn} {Rt : Int} (hok : OkTo ts fs fs.length) (r0 : 0 ≤ Rt) (r1 : Rt < (fs.length : Int)) {j : Nat} (hj : j < fs.length) (hK : (fs[j]).K = 3) : (bump (asksRow fs fs.length) Rt).getD (fs[j]).L.toNat 0 ≤ 1 ↔ (users fs (fs[j]).L = 1 ∧ (fs[j]).L ≠ Rt) := by
  obtain ⟨-, -, -, -, -, -, hl, -⟩ := (hok j hj hj).fld
  obtain ⟨a0, a1⟩ := hl (by rw [hK]; simp [oneK])
  obtain ⟨g1, g2⟩ := asksRow_get hok (fs[j]).L.toNat fs.length (Nat.le_refl _)
  have hc : (kidsL fs[j]).count (fs[j]).L = 1 := by
    have h2 : ¬ twoK (fs[j]).K := by rw [hK]; simp [twoK]
    have h1 : oneK (fs[j]).K := by rw [hK]; simp [oneK]
    simp [kidsL, h1, h2]
  have hone := one_use (q := (fs[j]).L) hj hc
  rw [bump_get r0 (by rw [g2]; exact r1), g1, List.take_length, show (((fs[j]).L.toNat : Nat) : Int) = (fs[j]).L by omega]
  have hge : ∀ q, (kidsL fs[j]).count q = 1 → 1 ≤ useC fs q := fun q hq => by
    have e1 : useC fs q = useC (fs.take j) q + (1 + useC (fs.drop (j + 1)) q) := by
      conv => lhs; rw [split_at fs j hj]
      rw [useC_append, useC_cons, hq]
    omega
  have hge := hge _ hc
  by_cases e : Rt = (fs[j]).L
  · rw [if_pos e]
    constructor
    · intro h; omega
    · intro h; exact absurd e.symm h.2
  · rw [if_neg e, ← hone]
    constructor
    · intro h; exact ⟨by omega, fun h' => e h'.symm⟩
    · intro h; have := h.1; omega
theorem not_zero {W x y : Int} (h : exOk W [(3, x), (7, y)] = true) : y = 0 := by
  unfold exOk at h
  rw [decide_eq_true_iff] at h
  obtain ⟨_, _, h⟩ := h
  by_cases hy : y = 0
  · exact hy
  · have ht : tk 7 y W < 0 := by simp [tk, hy]
    simp only [fwd, if_pos ht] at h
    split at h
    · cases h
    · split at h
      · cases h
      · cases h
/-- .. and it is the kind that the specification asks for -/
theorem actK_eq {ts : List Tb} {fs : List Fn} {Rt : Int} (hok : OkTo ts fs fs.length) (r0 : 0 ≤ Rt) (r1 : Rt < (fs.length : Int)) {j : Nat} (hj : j < fs.length) : actK ts fs Rt fs[j] = if asksP ts fs Rt fs[j] = 0 then 0 else 10 + (asksP ts fs Rt fs[j] : Int) - 1 := by
  by_cases hK : (fs[j]).K = 3
  · have hu := uses_iff hok r0 r1 hj hK
    have hx := (hok j hj hj).sid.2.1 (by rw [hK]; exact Or.inl rfl)
    unfold actK asksP
    by_cases h1 : (fs[j]).K ≠ 3 ∨ kindF fs (fs[j]).L ≠ 6 ∨ (fs[j]).L = Rt ∨ users fs (fs[j]).L ≠ 1
    · rw [if_neg (by rw [hu]; intro h; rcases h1 with h1 | h1 | h1 | h1 <;> simp_all), if_pos h1]; rfl
    · have h2 : (fs[j]).K = 3 ∧ kindF fs (fs[j]).L = 6 ∧ (bump (asksRow fs fs.length) Rt).getD (fs[j]).L.toNat 0 ≤ 1 := by
        rw [hu]
        simp only [not_or, Decidable.not_not] at h1
        exact ⟨hK, h1.2.1, h1.2.2.2, h1.2.2.1⟩
      rw [if_pos h2, if_neg h1]
      generalize fw ts fs (fs[j]).L.toNat - 1 = z at *
      generalize (if (fs[j]).K = 3 then fl ts fs fs[j] else fr ts fs fs[j]) = W at *
      generalize (fs[j]).Ex = xs at *
      clear h1 h2 hu hK
      unfold jkind
      match xs, hx with
      | [], _ => simp
      | [(x, y)], _ =>
        by_cases h : x = 3 ∧ y = z
        · obtain ⟨rfl, rfl⟩ := h; simp
        · have : ¬ (x = 3 ∧ y = z) := h
          by_cases hx3 : x = 3
          · have hy : ¬ y = z := fun e => h ⟨hx3, e⟩
            simp [hx3, hy]
          · simp [hx3]
      | [(x, y), (x', y')], hx =>
        by_cases hx3 : x = 3
        · subst hx3
          by_cases hy : y = z
          · subst hy
            by_cases hx7 : x' = 7
            · subst hx7
              have := not_zero hx
              subst this
              simp
            · simp [hx7]
          · simp [hy]
        · simp [hx3]
      | a :: b :: c :: r, _ =>
        simp
  · unfold actK
    rw [if_neg (fun h => hK h.1), asksP_0a (Or.inl hK)]
    rfl
end Go.Proofs.YtnchcndcinpalaaGreatDoor
/-
  THE PROGRAM's LIST AFTER k ROUNDS.
-/
namespace Go.Proofs.YtnchcndcinpalaaGreatDoor
open Go Go.RowKit

/-- node i after k rounds -/
def simpAt (ts : List Tb) (fs : List Fn) (Rt : Int) (k i : Nat) (p : Fn) : Fn :=
  { (if i < k then askedN ts fs Rt p else p) with K := laterK ts fs Rt i (if i < k then askedN ts fs Rt p else p).K k }
theorem simpAt_zero (ts : List Tb) (fs : List Fn) (Rt : Int) (i : Nat) (p : Fn) : simpAt ts fs Rt 0 i p = p := by
  simp [simpAt, laterK]
theorem simpAt_all (ts : List Tb) (fs : List Fn) (Rt : Int) (i : Nat) (hi : i < fs.length) (p : Fn) : simpAt ts fs Rt fs.length i p = simpN ts fs Rt i p := by
  simp [simpAt, simpN, hi]
theorem laterK_step0 {ts : List Tb} {fs : List Fn} {Rt : Int} {k : Nat} (hk : k < fs.length) (h : asksP ts fs Rt fs[k] = 0) (i : Nat) (c : Int) : laterK ts fs Rt i c (k + 1) = laterK ts fs Rt i c k := by
  conv => lhs; unfold laterK
  rw [List.getElem?_eq_getElem hk]
  simp [h]
theorem laterK_far {ts : List Tb} {fs : List Fn} {Rt : Int} {k : Nat} (hk : k < fs.length) (i : Nat) (c : Int) (h : (fs[k]).L ≠ (i : Int)) : laterK ts fs Rt i c (k + 1) = laterK ts fs Rt i c k := by
  conv => lhs; unfold laterK
  rw [List.getElem?_eq_getElem hk]
  simp [h]
/-- a round in which nothing is asked -/
theorem simpAt_step0 {ts : List Tb} {fs : List Fn} {Rt : Int} {k : Nat} (hk : k < fs.length) (h : asksP ts fs Rt fs[k] = 0) (i : Nat) (hi : i < fs.length) : simpAt ts fs Rt (k + 1) i fs[i] = simpAt ts fs Rt k i fs[i] := by
  unfold simpAt
  rw [laterK_step0 hk h]
  by_cases e : i < k
  · rw [if_pos e, if_pos (by omega)]
  · by_cases e2 : i = k
    · subst e2
      have : askedN ts fs Rt fs[i] = fs[i] := by unfold askedN; rw [if_neg (by omega)]
      simp [this]
    · rw [if_neg e, if_neg (by omega)]
/-- a round in which it is: a node that is neither the one nor its L -/
theorem simpAt_far {ts : List Tb} {fs : List Fn} {Rt : Int} {k : Nat} (hk : k < fs.length) (i : Nat) (hne : i ≠ k) (hL : (fs[k]).L ≠ (i : Int)) (p : Fn) : simpAt ts fs Rt (k + 1) i p = simpAt ts fs Rt k i p := by
  unfold simpAt
  rw [laterK_far hk i _ hL]
  by_cases e : i < k
  · rw [if_pos e, if_pos (by omega)]
  · rw [if_neg e, if_neg (by omega)]
/-- its L -/
theorem simpAt_left {ts : List Tb} {fs : List Fn} {Rt : Int} {k : Nat} (hk : k < fs.length) (i : Nat) (hlt : i < k) (hL : (fs[k]).L = (i : Int)) (h : 0 < asksP ts fs Rt fs[k]) (p : Fn) : simpAt ts fs Rt (k + 1) i p = { simpAt ts fs Rt k i p with K := 10 + (asksP ts fs Rt fs[k] : Int) - 1 } := by
  unfold simpAt
  rw [laterK_succ ts fs Rt i _ k hk hlt, if_pos (show i < k + 1 by omega), if_pos hlt, if_pos ⟨hL, h⟩]
/-- the node itself -/
theorem simpAt_self {ts : List Tb} {fs : List Fn} {Rt : Int} {k : Nat} (p : Fn) : simpAt ts fs Rt (k + 1) k p = askedN ts fs Rt p := by
  unfold simpAt
  rw [laterK_start ts fs Rt k _ (k + 1) (Nat.le_refl _), if_pos (show k < k + 1 by omega)]
end Go.Proofs.YtnchcndcinpalaaGreatDoor
