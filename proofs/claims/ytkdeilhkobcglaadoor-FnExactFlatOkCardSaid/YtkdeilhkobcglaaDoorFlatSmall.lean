import Derived.Test.YtkdeilhkobcglaaDoorFlatMath
import Derived.Test.YtkdeilhkobcglaaDoorGFld
import Derived.Test.YtkdeilhkobcglaaDoorTakes2
/-
  THE PROGRAM's SMALL FUNCTIONS ON A FLAT PLAN's NODE.
-/
namespace Go.Proofs.YtkdeilhkobcglaaDoor
open Go Go.RowKit

/-- the eight words of a kind: table, agg, ex, exs, left, right, perRow, match -/
def qf (K : Int) : List Bool :=
  if K = 2 then [true, false, false, false, false, false, false, false] else if K = 3 then [false, false, true, false, true, false, false, false] else if K = 4 then [false, false, false, true, true, false, false, false] else if K = 5 then [false, false, false, false, true, true, false, true] else if K = 6 then [false, false, true, false, true, true, false, true] else if K = 7 then [false, true, true, false, true, true, false, true] else if K = 8 then [false, false, false, false, true, false, false, false] else if K = 9 then [false, false, false, false, true, true, false, false] else if K = 10 then [false, false, true, false, true, true, false, true] else if K = 11 then [false, false, true, false, true, true, false, true] else [false, false, false, false, false, false, false, false]
def qfb (K : Int) (i : Nat) : Bool := (qf K).getD i false
abbrev TFlat (w : World) : Prop := TabAt w 1 [.bool false, .bool false, .bool false, .bool false, .bool false, .bool false, .bool false, .bool false, .bool false, .bool false, .bool false, .bool false, .bool false, .bool false, .bool false, .bool false, .bool true, .bool false, .bool false, .bool false, .bool false, .bool false, .bool false, .bool false, .bool false, .bool false, .bool true, .bool false, .bool true, .bool false, .bool false, .bool false, .bool false, .bool false, .bool false, .bool true, .bool true, .bool false, .bool false, .bool false, .bool false, .bool false, .bool false, .bool false, .bool true, .bool true, .bool false, .bool true, .bool false, .bool false, .bool true, .bool false, .bool true, .bool true, .bool false, .bool true, .bool false, .bool true, .bool true, .bool false, .bool true, .bool true, .bool false, .bool true, .bool false, .bool false, .bool false, .bool false, .bool true, .bool false, .bool false, .bool false, .bool false, .bool false, .bool false, .bool false, .bool true, .bool true, .bool false, .bool false, .bool false, .bool false, .bool true, .bool false, .bool true, .bool true, .bool false, .bool true, .bool false, .bool false, .bool true, .bool false, .bool true, .bool true, .bool false, .bool true]
theorem q_look {w : World} (h : TFlat w) (K : Int) (h1 : 1 ≤ K) (h2 : K ≤ 11) : w.cell? ⟨1, K.toNat * 8, none⟩ = some (.bool (qfb K 0)) ∧ w.cell? ⟨1, K.toNat * 8 + 1, none⟩ = some (.bool (qfb K 1)) ∧ w.cell? ⟨1, K.toNat * 8 + 2, none⟩ = some (.bool (qfb K 2)) ∧ w.cell? ⟨1, K.toNat * 8 + 3, none⟩ = some (.bool (qfb K 3)) ∧ w.cell? ⟨1, K.toNat * 8 + 4, none⟩ = some (.bool (qfb K 4)) ∧ w.cell? ⟨1, K.toNat * 8 + 5, none⟩ = some (.bool (qfb K 5)) ∧ w.cell? ⟨1, K.toNat * 8 + 6, none⟩ = some (.bool (qfb K 6)) ∧ w.cell? ⟨1, K.toNat * 8 + 7, none⟩ = some (.bool (qfb K 7)) := by
  have e : K = 1 ∨ K = 2 ∨ K = 3 ∨ K = 4 ∨ K = 5 ∨ K = 6 ∨ K = 7 ∨ K = 8 ∨ K = 9 ∨ K = 10 ∨ K = 11 := by omega
  rw [h.cell, h.cell, h.cell, h.cell, h.cell, h.cell, h.cell, h.cell]
  rcases e with rfl | rfl | rfl | rfl | rfl | rfl | rfl | rfl | rfl | rfl | rfl <;> exact ⟨rfl, rfl, rfl, rfl, rfl, rfl, rfl, rfl⟩
theorem q_words {K : Int} (h1 : 1 ≤ K) (h2 : K ≤ 11) : (qfb K 0 = true ↔ K = 2) ∧ (qfb K 1 = true ↔ K = 7) ∧ (qfb K 2 = true ↔ (K = 3 ∨ K = 6 ∨ K = 7 ∨ K = 10 ∨ K = 11)) ∧ (qfb K 3 = true ↔ K = 4) ∧ (qfb K 4 = true ↔ oneK K) ∧ (qfb K 5 = true ↔ twoK K) ∧ (qfb K 7 = true ↔ matK K) := by
  have e : K = 1 ∨ K = 2 ∨ K = 3 ∨ K = 4 ∨ K = 5 ∨ K = 6 ∨ K = 7 ∨ K = 8 ∨ K = 9 ∨ K = 10 ∨ K = 11 := by omega
  rcases e with rfl | rfl | rfl | rfl | rfl | rfl | rfl | rfl | rfl | rfl | rfl <;> decide

end Go.Proofs.YtkdeilhkobcglaaDoor
