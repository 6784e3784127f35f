/-
  THE WIDTH OF A PLAN's NODE in an environment, as a function of the list of nodes; and what a place that starts somewhere says of its kids.
-/
import Derived.Test.YtahanplikbdccaaDoorSpecPlan2
import Derived.Test.YtahanplikbdccaaDoorSpecDb
import Derived.Test.YtahanplikbdccaaDoorExMath
namespace Go.Proofs.YtahanplikbdccaaDoor
open Go Go.RowKit

abbrev UsedP (ts : List Tb) (p : Pn) : Prop := usedP ts.length p.K p.T p.M p.Ex.length p.Exs.length
/-- the width of a table, 0 where there is none -/
def colsAt (ts : List Tb) (t : Int) : Int := (ts[t.toNat]?.map (fun t => t.Cols)).getD 0
/-- the width that a node has before the bound is asked, by its kids' widths; -1 where it is not valid -/
def rawW (ts : List Tb) (p : Pn) (env l r : Int) : Int :=
  if p.K = 2 then colsAt ts p.T
  else if p.K = 3 then (if exOk (env + l) p.Ex = true then l else -1)
  else if p.K = 4 then (if ∀ xs ∈ p.Exs, exOk (env + l) xs = true then (p.Exs.length : Int) else -1)
  else if p.K = 5 ∨ p.K = 6 then l + r
  else if p.K = 7 ∨ p.K = 8 then (if p.M = 1 ∨ exOk (env + l + r) p.Ex = true then l + 1 else -1)
  else if p.K = 10 then (if l = r then l else -1)
  else l
def nodeW (ts : List Tb) (p : Pn) (env l r : Int) : Int := if rawW ts p env l r < 0 ∨ 200 < env + rawW ts p env l r then -1 else rawW ts p env l r
open Classical in
noncomputable def wid (ts : List Tb) (ps : List Pn) (i : Nat) (env : Int) : Int :=
  match ps[i]? with
  | none => -1
  | some p =>
    if ¬ UsedP ts p then -1 else
    let l := if 0 < arity p.K then (if _h : p.L.toNat < i then wid ts ps p.L.toNat env else -1) else 0
    if l < 0 then -1 else
    let r := if 1 < arity p.K then (if _h : p.R.toNat < i then wid ts ps p.R.toNat (insideW p.K env l) else -1) else 0
    if r < 0 then -1 else nodeW ts p env l r
termination_by i
theorem nodeW_range (ts : List Tb) (p : Pn) (env l r : Int) : -1 ≤ nodeW ts p env l r ∧ (0 ≤ nodeW ts p env l r → env + nodeW ts p env l r ≤ 200) := by
  unfold nodeW
  generalize rawW ts p env l r = z
  split <;> omega
theorem wid_range (ts : List Tb) (ps : List Pn) (i : Nat) (env : Int) : -1 ≤ wid ts ps i env ∧ (0 ≤ wid ts ps i env → env + wid ts ps i env ≤ 200) := by
  unfold wid
  split
  · omega
  · split
    · omega
    · dsimp only
      generalize (if 0 < arity _ then (if _h : _ < i then wid ts ps _ env else -1) else 0) = l
      split
      · omega
      · generalize (if 1 < arity _ then (if _h : _ < i then wid ts ps _ _ else -1) else 0) = r
        split
        · omega
        · exact nodeW_range ts _ env l r
/-- one kid: it stands right before, and starts where its parent starts -/
theorem kid_one {ps : List Pn} {i : Nat} (hi : i < ps.length) (h : frm (nds ps) i ≠ -1) (ha : arity (ps[i]).K = 1) : ∃ j : Nat, j < i ∧ (ps[i]).L = (j : Int) ∧ (ps[i]).R = 0 ∧ frm (nds ps) j ≠ -1 := by
  have hk := kidsAt_nds hi
  unfold kidsP at hk
  rw [if_neg (by omega), if_pos ha] at hk
  by_cases hr : (ps[i]).R = 0
  · rw [if_pos hr] at hk
    cases i with
    | zero => exact absurd (frm_one0 hk) h
    | succ j =>
      rw [frm_one hk] at h
      by_cases hl : (ps[j + 1]).L = (j : Int)
      · rw [if_pos hl] at h
        exact ⟨j, by omega, hl, hr, h⟩
      · rw [if_neg hl] at h
        exact absurd rfl h
  · rw [if_neg hr] at hk
    exact absurd (frm_neg hk) h
theorem kid_two {ps : List Pn} {i : Nat} (hi : i < ps.length) (h : frm (nds ps) i ≠ -1) (ha : arity (ps[i]).K = 2) : ∃ q j : Nat, q < i ∧ j < i ∧ (ps[i]).L = (q : Int) ∧ (ps[i]).R = (j : Int) ∧ frm (nds ps) q ≠ -1 ∧ frm (nds ps) j ≠ -1 := by
  have hk := kidsAt_nds hi
  unfold kidsP at hk
  rw [if_neg (by omega), if_neg (by omega), if_pos ha] at hk
  cases i with
  | zero => exact absurd (frm_two0 hk) h
  | succ j =>
    rw [frm_two hk] at h
    by_cases h1 : (ps[j + 1]).R ≠ (j : Int)
    · rw [if_pos h1] at h; exact absurd rfl h
    rw [if_neg h1] at h
    by_cases h2 : frm (nds ps) j < 1
    · rw [if_pos h2] at h; exact absurd rfl h
    rw [if_neg h2] at h
    by_cases h3 : (ps[j + 1]).L ≠ frm (nds ps) j - 1
    · rw [if_pos h3] at h; exact absurd rfl h
    rw [if_neg h3] at h
    have hle := (frm_le (nds ps) j).2
    exact ⟨(frm (nds ps) j - 1).toNat, j, by omega, by omega, by omega, by omega, h, by omega⟩
end Go.Proofs.YtahanplikbdccaaDoor
