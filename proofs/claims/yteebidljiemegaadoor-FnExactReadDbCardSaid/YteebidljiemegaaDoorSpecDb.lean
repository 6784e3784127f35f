import Derived.Test.YteebidljiemegaaDoorDbKit
import Derived.Test.YteebidljiemegaaDoorNameFns3
import Derived.BigQuiet
import Derived.Deep.RegionHeld3
import Derived.Deep.DeepCutAuto
namespace Go.Proofs.YteebidljiemegaaDoor
open Go Go.RowKit
def fidx (ts : List Tb) (l : List UInt8) : Int := ((ts.findIdx? (fun t => t.Name.toList == l)).map (fun k : Nat => (k : Int))).getD (-1)
theorem fidx_at {ts : List Tb} {l : List UInt8} {k : Nat} (hk : k < ts.length) (h : ∀ (j : Nat) (hj : j < ts.length), j < k → (ts[j]).Name.toList ≠ l) (he : (ts[k]).Name.toList = l) : fidx ts l = (k : Int) := by
  unfold fidx
  rw [List.findIdx?_eq_some_iff_getElem.2 ⟨hk, by simp [he], fun j hj => by simp [h j (by omega) hj]⟩]
  rfl
theorem fidx_none {ts : List Tb} {l : List UInt8} (h : ∀ (j : Nat) (hj : j < ts.length), (ts[j]).Name.toList ≠ l) : fidx ts l = -1 := by
  unfold fidx
  rw [List.findIdx?_eq_none_iff.2 (fun t ht => by
    obtain ⟨j, hj, rfl⟩ := List.mem_iff_getElem.1 ht
    simp [h j hj])]
  rfl
theorem fidx_range (ts : List Tb) (l : List UInt8) : -1 ≤ fidx ts l ∧ fidx ts l < ts.length + 1 := by
  unfold fidx
  cases h : ts.findIdx? (fun t => t.Name.toList == l) with
  | none => simp; omega
  | some k =>
    have := (List.findIdx?_eq_some_iff_getElem.1 h).1
    simp; omega
def sumR : List Tb → Nat
  | [] => 0
  | t :: r => t.Rows.length + sumR r
theorem sumR_append (a b : List Tb) : sumR (a ++ b) = sumR a + sumR b := by
  induction a with
  | nil => simp [sumR]
  | cons x a ih => simp only [List.cons_append, sumR, ih]; omega
theorem sumR_take (ts : List Tb) (k : Nat) (hk : k < ts.length) : sumR (ts.take (k + 1)) = sumR (ts.take k) + (ts[k]).Rows.length := by
  rw [take_snoc ts k hk, sumR_append]; simp [sumR]
theorem sumR_bulk : ∀ (ts : List Tb), sumR ts ≤ bulkT ts
  | [] => by simp [sumR]
  | t :: r => by have := sumR_bulk r; simp only [sumR, bulkT]; omega
theorem sumR_take_le (ts : List Tb) (k : Nat) : sumR (ts.take k) ≤ bulkT ts := Nat.le_trans (sumR_bulk _) (bulkT_take_le ts k)
def TbV (ts : List Tb) (i : Nat) (t : Tb) : Prop := NameB t.Name ∧ 1 ≤ t.Cols ∧ t.Cols ≤ 16 ∧ fidx ts t.Name.toList = (i : Int) ∧ ∀ xs ∈ t.Rows, (xs.length : Int) = t.Cols
structure DbV (ts : List Tb) : Prop where
  few : ts.length ≤ 50
  each : ∀ (i : Nat) (hi : i < ts.length), TbV ts i ts[i]
  rows : sumR ts ≤ 1000
def SmallT (ts : List Tb) : Prop := bulkT ts ≤ 1048576
end Go.Proofs.YteebidljiemegaaDoor
