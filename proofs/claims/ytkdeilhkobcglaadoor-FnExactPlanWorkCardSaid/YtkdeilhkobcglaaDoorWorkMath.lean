import Derived.Test.YtkdeilhkobcglaaDoorGWork1
import Derived.Test.YtkdeilhkobcglaaDoorGPM
import Derived.Test.YtkdeilhkobcglaaDoorPlanOrder
/-
  THE GREATEST BOUND OF A PLAN, node by node.
-/
namespace Go.Proofs.YtkdeilhkobcglaaDoor
open Go Go.RowKit

/-- the greatest of n values from a on, 0 where there is none -/
def mxF (c : Nat → Int) (a : Nat) : Nat → Int
  | 0 => 0
  | n + 1 => max (mxF c a n) (c (a + n))
theorem mxF_succ (c : Nat → Int) (a n : Nat) : mxF c a (n + 1) = max (mxF c a n) (c (a + n)) := rfl
theorem mxF_nonneg (c : Nat → Int) (a : Nat) : ∀ n, 0 ≤ mxF c a n
  | 0 => Int.le_refl _
  | n + 1 => by have := mxF_nonneg c a n; unfold mxF; omega
theorem mxF_add (c : Nat → Int) (a : Nat) (m : Nat) : ∀ n, mxF c a (m + n) = max (mxF c a m) (mxF c (a + m) n)
  | 0 => by have := mxF_nonneg c a m; simp only [Nat.add_zero, mxF]; omega
  | n + 1 => by
    have := mxF_add c a m n
    rw [show m + (n + 1) = (m + n) + 1 by omega, mxF, this, mxF, show a + m + n = a + (m + n) by omega]
    omega
theorem good_wrk {ts : List Tb} {ps : List Pn} (h : Good ts ps) {i : Nat} (hi : i < ps.length) (calls : Int) :
    wrk ts ps i calls = max (max (capW (calls * siz ts ps i)) (if 0 < arity (ps[i]).K then wrk ts ps (ps[i]).L.toNat calls else 0)) (if 1 < arity (ps[i]).K then wrk ts ps (ps[i]).R.toNat (callsR ts ps ps[i] calls) else 0) := by
  obtain ⟨kl, kr⟩ := h.kids hi
  conv => lhs; rw [wrk]
  rw [List.getElem?_eq_getElem hi]
  dsimp only
  congr 1
  · congr 1
    split
    · rename_i ha; rw [dif_pos (kl ha).2]
    · rfl
  · split
    · rename_i ha; rw [dif_pos (kr ha).2]
    · rfl
/-- the numbers of runs, handed down -/
def fC (ts : List Tb) (ps : List Pn) : Int → Int → Int := fun calls left => capW (calls * siz ts ps left.toNat)
def cN (ts : List Tb) (ps : List Pn) (C : List Int) (j : Nat) : Int := capW (C.getD j 0 * siz ts ps j)
theorem good_most {ts : List Tb} {ps : List Pn} (h : Good ts ps) {C : List Int} (hC : Handed ps (fC ts ps) 1 C) : ∀ (n i : Nat), i < n → i < ps.length → ∀ f : Nat, frm (nds ps) i = (f : Int) → (0 ≤ C.getD i 0) →
    (∀ j, 0 ≤ C.getD j 0) → wrk ts ps i (C.getD i 0) = mxF (cN ts ps C) f (i - f + 1) := by
  intro n
  induction n with
  | zero => intro i hi; omega
  | succ n ih =>
    intro i hin hi f hf hc0 hcs
    have hF := h.fld i hi
    have hfm := h.frm hi
    have hfl := frm_le (nds ps) i
    have hm0 : 0 ≤ cN ts ps C i := (capW_range (Int.mul_nonneg hc0 (siz_range ts ps (i + 1) i (by omega)).1)).1
    rw [good_wrk h hi]
    have he : capW (C.getD i 0 * siz ts ps i) = cN ts ps C i := rfl
    rw [he]
    rcases arity_of hF.1 hF.2.1 with ha | ha | ha
    · have hz := frm_zero_at hi ha (hF.2.2.2.1 ha) (hF.2.2.2.2 (by omega))
      obtain rfl : f = i := by omega
      rw [if_neg (by omega), if_neg (by omega), show f - f + 1 = 0 + 1 by omega, mxF_succ _ _ 0]
      simp only [Nat.add_zero, mxF]
      omega
    · obtain ⟨j, e, e1, _, e3⟩ := kid_one' hi hfm ha
      have hl := hC.left i hi (by omega)
      rw [e1, show ((j : Int)).toNat = j by omega] at hl
      have hj := ih j (by omega) (by omega) f (by omega) (hcs j) hcs
      rw [if_pos (by omega), if_neg (by omega), e1, show ((j : Int)).toNat = j by omega, ← hl, hj]
      have hfj := (frm_le (nds ps) j).2
      rw [show i - f + 1 = (j - f + 1) + 1 by omega, mxF_succ _ _ (j - f + 1), show f + (j - f + 1) = i by omega]
      have := mxF_nonneg (cN ts ps C) f (j - f + 1)
      omega
    · obtain ⟨q, j, e, e0, e1, e2, e3, e4⟩ := kid_two' hi hfm ha
      have hl := hC.left i hi (by omega)
      have hr := hC.right i hi (by omega)
      rw [e1, show ((q : Int)).toNat = q by omega] at hl
      have hcr : callsR ts ps ps[i] (C.getD i 0) = C.getD j 0 := by
        rw [e2, show ((j : Int)).toNat = j by omega] at hr
        rw [hr]
        unfold callsR perRow fC
        rfl
      have hq := ih q (by omega) (by omega) f (by omega) (hcs q) hcs
      have hj := ih j (by omega) (by omega) (q + 1) (by omega) (hcs j) hcs
      rw [if_pos (by omega), if_pos (by omega), hcr, e1, e2, show ((q : Int)).toNat = q by omega, show ((j : Int)).toNat = j by omega, ← hl, hq, hj]
      have hfq := (frm_le (nds ps) q).2
      rw [show i - f + 1 = ((q - f + 1) + (j - (q + 1) + 1)) + 1 by omega, mxF_succ _ _ (q - f + 1 + (j - (q + 1) + 1)), mxF_add _ _ (q - f + 1) (j - (q + 1) + 1), show f + (q - f + 1) = q + 1 by omega, show f + (q - f + 1 + (j - (q + 1) + 1)) = i by omega]
      omega
theorem good_work {ts : List Tb} {ps : List Pn} (h : Good ts ps) {C : List Int} (hC : Handed ps (fC ts ps) 1 C) (hcs : ∀ j, 0 ≤ C.getD j 0) : wrk ts ps (ps.length - 1) 1 = mxF (cN ts ps C) 0 ps.length := by
  have hn := h.some
  have := good_most h hC ps.length (ps.length - 1) (by omega) (by omega) 0 (by simpa using h.ord) (hcs _) hcs
  rw [hC.top] at this
  rw [this, show ps.length - 1 - 0 + 1 = ps.length by omega]
noncomputable def workZ (ts : List Tb) (ps : List Pn) : Int := open Classical in if PlanV ts ps then wrk ts ps (ps.length - 1) 1 else -1
noncomputable def workE (ts : List Tb) (ps : List Pn) : Ending := .returned (.int .i64 (workZ ts ps))
theorem workE_no {ts : List Tb} {ps : List Pn} (h : ¬ PlanV ts ps) : workE ts ps = .returned (.int .i64 (-1)) := by unfold workE workZ; rw [if_neg h]
theorem workE_yes {ts : List Tb} {ps : List Pn} (h : PlanV ts ps) : workE ts ps = .returned (.int .i64 (wrk ts ps (ps.length - 1) 1)) := by unfold workE workZ; rw [if_pos h]
end Go.Proofs.YtkdeilhkobcglaaDoor
