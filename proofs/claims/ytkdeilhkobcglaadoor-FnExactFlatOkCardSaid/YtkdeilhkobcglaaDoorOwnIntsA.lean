import Derived.Test.YtkdeilhkobcglaaDoorNodeKit
import Derived.Deep.AppendLies
import Derived.Deep.RegionHeld3
import Derived.Deep.DeepCutAuto
/-
  A ROW OF INTS THAT IS APPENDED TO.
-/
namespace Go.Proofs.YtkdeilhkobcglaaDoor
open Go Go.RowKit

def vInts (xs : List Int) : List Value := xs.map fun x => .int .i64 x
theorem vInts_append (a b : List Int) : vInts (a ++ b) = vInts a ++ vInts b := by simp [vInts]
theorem vInts_take (xs : List Int) (k : Nat) : vInts (xs.take k) = (vInts xs).take k := by simp [vInts, List.map_take]
/-- a slice of the call's own -/
def OwnI (w : World) (B g cap : Nat) (xs : List Int) : Prop := w.ownsRow B 3 1 (.slice (some ⟨g, 0, none⟩) xs.length cap) xs.length (vInts xs)
theorem OwnI.lt {w : World} {B g cap : Nat} {xs : List Int} (h : OwnI w B g cap xs) : g < w.heap.size ∧ B ≤ g ∧ xs.length ≤ cap ∧ cap ≤ maxLen := by
  rcases h.2 with ⟨h1, _⟩ | ⟨g', cap', cur, h1, h2, h3, h4, h5, _⟩
  · simp at h1
  · simp only [Value.slice.injEq, Option.some.injEq, Addr.mk.injEq, and_true, true_and] at h1
    obtain ⟨rfl, rfl⟩ := h1
    exact ⟨(Array.getElem?_eq_some_iff.1 h3).1, h2, h4, h5⟩
theorem OwnI.of {w w1 : World} {B g cap : Nat} {xs : List Int} (h : OwnI w B g cap xs) (hb : Below w.heap.size w w1) : OwnI w1 B g cap xs := by
  have hl := h.lt.1
  refine ⟨h.1, ?_⟩
  rcases h.2 with h1 | ⟨g', cap', cur, h1, h2, h3, h4⟩
  · exact Or.inl h1
  · have e : g' = g := by
      simp only [Value.slice.injEq, Option.some.injEq, Addr.mk.injEq, and_true, true_and] at h1
      exact h1.1.symm
    exact Or.inr ⟨g', cap', cur, h1, h2, by rw [hb.block g' (by rw [e]; exact hl)]; exact h3, h4⟩
theorem OwnI.cut {w : World} {B g cap : Nat} {xs : List Int} (h : OwnI w B g cap xs) (r : Nat) (hr : r ≤ xs.length) : w.ownsRow B 3 1 (.slice (some ⟨g, 0, none⟩) r cap) r (vInts (xs.take r)) := by
  refine ⟨by simp [vInts]; omega, ?_⟩
  rcases h.2 with ⟨h1, _⟩ | ⟨g', cap', cur, h1, h2, h3, h4, h5, h6, h7⟩
  · simp at h1
  · simp only [Value.slice.injEq, Option.some.injEq, Addr.mk.injEq, and_true, true_and] at h1
    obtain ⟨rfl, rfl⟩ := h1
    refine Or.inr ⟨g, cap, cur, rfl, h2, h3, by omega, h5, h6, ?_⟩
    rw [vInts_take, ← h7, List.take_take, Nat.min_eq_left (by omega), Nat.mul_one]
theorem OwnI.row {w : World} {B g cap : Nat} {xs : List Int} (h : OwnI w B g cap xs) : IntsAt w g 0 xs := by
  rcases h.2 with ⟨h1, _⟩ | ⟨g', cap', cur, h1, h2, h3, h4, h5, h6, h7⟩
  · simp at h1
  · simp only [Value.slice.injEq, Option.some.injEq, Addr.mk.injEq, and_true, true_and] at h1
    obtain ⟨rfl, rfl⟩ := h1
    intro i x hx
    have hi := (List.getElem?_eq_some_iff.1 hx).1
    have e0 : (vInts xs)[i]? = some (.int .i64 x) := by simp [vInts, hx]
    rw [← h7] at e0
    rw [List.getElem?_take, if_pos (by omega)] at e0
    simp only [Nat.zero_add, World.cell?, h3]
    simpa using e0
end Go.Proofs.YtkdeilhkobcglaaDoor
