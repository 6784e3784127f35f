import Derived.Test.YtkdeilhkobcglaaDoorProg
import Derived.WalkKit
import Derived.WalkLawsBesides
namespace Go.Proofs.YtkdeilhkobcglaaDoor
open Go Go.RowKit

theorem bA {w w1 : World} (h : Below w.heap.size w w1) (o : Obj) : Below w.heap.size w (w1.alloc o) := h.alloc h.size o

/-- a Val as a truth value: 0 false, 1 unknown, 2 true -/
def tr (b : Bool) (n : Int) : Int := if b then 1 else if n = 0 then 0 else 2
/-- the Val of a truth value -/
def vB (t : Int) : Bool := decide (t = 1)
def vI (t : Int) : Int := if t = 2 then 1 else 0

theorem tr_cases (b : Bool) (n : Int) : tr b n = 0 ∨ tr b n = 1 ∨ tr b n = 2 := by
  unfold tr; cases b <;> by_cases h : n = 0 <;> simp [h]

theorem tr_nat (b : Bool) (n : Int) : ∃ x : Nat, tr b n = (x : Int) ∧ x ≤ 2 := by
  rcases tr_cases b n with h | h | h
  · exact ⟨0, by rw [h]; rfl, by omega⟩
  · exact ⟨1, by rw [h]; rfl, by omega⟩
  · exact ⟨2, by rw [h]; rfl, by omega⟩

/-- WHAT A TABLE HOLDS: block g is there, its cells are l -/
structure TabAt (w : World) (g : Nat) (l : List Value) : Prop where
  size : g < w.heap.size
  cell : ∀ i, w.cell? ⟨g, i, none⟩ = l[i]?
theorem TabAt.of {w w1 : World} {g : Nat} {l : List Value} (h : TabAt w g l) (hb : Below w.heap.size w w1) : TabAt w1 g l :=
  ⟨Nat.lt_of_lt_of_le h.size hb.size, fun i => (hb.cell (p := ⟨g, i, none⟩) h.size).trans (h.cell i)⟩
theorem TabAt.alloc {w : World} {g : Nat} {l : List Value} (h : TabAt w g l) (o : Obj) : TabAt (w.alloc o) g l := h.of (bA (Below.refl _ _) _)
theorem bcell {W w1 : World} (hb : Below W.heap.size W w1) : (∀ b o, b < W.heap.size → w1.cell? ⟨b, o, none⟩ = W.cell? ⟨b, o, none⟩) ∧ (∀ b o, b < W.heap.size → w1.frozen? ⟨b, o, none⟩ = W.frozen? ⟨b, o, none⟩) :=
  ⟨fun b o h => hb.cell (p := ⟨b, o, none⟩) h, fun b o h => hb.frozen (p := ⟨b, o, none⟩) h⟩
/-- what was there is there still: two rules that chain -/
theorem blt {W w1 : World} (hb : Below W.heap.size W w1) : (∀ k, k < W.heap.size → k < w1.heap.size) ∧ (∀ k, k < W.heap.size → k ≤ w1.heap.size) :=
  ⟨fun _ h => Nat.lt_of_lt_of_le h hb.size, fun _ h => Nat.le_of_lt (Nat.lt_of_lt_of_le h hb.size)⟩

/-- WHAT STOOD WHEN A REGION BEGAN STANDS STILL: said of whatever world the region comes to -/
abbrev Std (w0 w : World) : Prop := (∀ b o, b < w0.heap.size → w.cell? ⟨b, o, none⟩ = w0.cell? ⟨b, o, none⟩) ∧ (∀ b o, b < w0.heap.size → w.frozen? ⟨b, o, none⟩ = w0.frozen? ⟨b, o, none⟩) ∧ Below w0.heap.size w0 w
theorem Std.mk {w0 w : World} (h : Below w0.heap.size w0 w) : Std w0 w := ⟨(bcell h).1, (bcell h).2, h⟩
theorem Std.refl (w : World) : Std w w := Std.mk (Below.refl _ _)
theorem Std.drew {w0 w : World} (h : Std w0 w) : Std w0 w.drew := Std.mk h.2.2.drew
theorem Std.alloc {w0 w : World} (h : Std w0 w) (o : Obj) : Std w0 (w.alloc o) := Std.mk (bA h.2.2 o)
theorem Std.call {w0 w w1 : World} (h : Std w0 w) (hb : Below w.heap.size w w1) : Std w0 w1 := Std.mk (h.2.2.trans (hb.mono h.2.2.size))
theorem Std.setCell {w0 w : World} (h : Std w0 w) {p : Addr} (hp : w0.heap.size ≤ p.block) (u : Value) : Std w0 (w.setCell p u) := Std.mk (h.2.2.setCell hp u)
theorem Std.size {w0 w : World} (h : Std w0 w) : w0.heap.size ≤ w.heap.size := h.2.2.size

/-- a contract's world, seen from the caller's: what was below is as it was -/
theorem bT {w w0 w1 : World} (h : Below w.heap.size w w0) (hb : Below w0.heap.size w0 w1) : Below w.heap.size w w1 := h.trans (hb.mono h.size)

theorem below_any {g s : Nat} (h : g < s) : (∀ j, j ≤ g → j < s) ∧ (∀ j, j ≤ g → j ≤ s) ∧ (∀ j, j ≤ g → (s = j) = False) := ⟨fun _ hj => Nat.lt_of_le_of_lt hj h, fun _ hj => Nat.le_of_lt (Nat.lt_of_le_of_lt hj h), fun j hj => by simp; omega⟩
theorem hide {p : Prop} (h : p) : Hid p := h
theorem unhide {p : Prop} (h : Hid p) : p := h
theorem wrap_small (n : Int) (h0 : -1000000000000000 ≤ n) (h1 : n ≤ 1000000000000000) : IntKind.i64.wrap n = n := by
  rw [IntKind.wrap_i64]; omega

/-- a Val in a box of two cells -/
structure Box (w : World) (B : Nat) (b : Bool) (n : Int) : Prop where
  size : B < w.heap.size
  c0 : w.cell? ⟨B, 0, none⟩ = some (.bool b)
  c1 : w.cell? ⟨B, 1, none⟩ = some (.int .i64 n)
theorem Box.of {w w1 : World} {B : Nat} {b : Bool} {n : Int} (h : Box w B b n) (hb : Below w.heap.size w w1) : Box w1 B b n :=
  ⟨Nat.lt_of_lt_of_le h.size hb.size, (hb.cell (p := ⟨B, 0, none⟩) h.size).trans h.c0, (hb.cell (p := ⟨B, 1, none⟩) h.size).trans h.c1⟩
end Go.Proofs.YtkdeilhkobcglaaDoor
