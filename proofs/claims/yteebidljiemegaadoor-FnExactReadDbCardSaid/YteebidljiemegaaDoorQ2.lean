import Derived.Test.YteebidljiemegaaDoorQ1
import Derived.Laws.Strings
import Derived.Test.YteebidljiemegaaDoorProg
import Derived.WalkKit
import Derived.WalkLawsBesides
namespace Go.Proofs.YteebidljiemegaaDoor
noncomputable def dB (p : Prop) : Bool := @decide p (Classical.propDecidable p)
theorem dB_true {p : Prop} (h : p) : dB p = true := by unfold dB; exact @decide_eq_true p (Classical.propDecidable p) h
theorem dB_false {p : Prop} (h : ¬ p) : dB p = false := by unfold dB; exact @decide_eq_false p (Classical.propDecidable p) h
theorem dB_iff {p : Prop} : dB p = true ↔ p := ⟨fun h => Classical.byContradiction fun hn => (by rw [dB_false hn] at h; cases h), dB_true⟩
def letter (c : Int) : Bool := (decide (65 ≤ c) && decide (c ≤ 90)) || (decide (97 ≤ c) && decide (c ≤ 122))
def digit (c : Int) : Bool := decide (48 ≤ c) && decide (c ≤ 57)
def part (c : Int) : Bool := letter c || digit c || decide (c = 95)
def byt (s : ByteArray) (i : Nat) : Int := ((s.toList.getD i 0).toNat : Int)
def kws : List (List UInt8) := [[83, 69, 76, 69, 67, 84], [68, 73, 83, 84, 73, 78, 67, 84], [70, 82, 79, 77], [87, 72, 69, 82, 69], [85, 78, 73, 79, 78], [65, 76, 76], [65, 78, 89], [65, 78, 68], [79, 82], [78, 79, 84], [69, 88, 73, 83, 84, 83], [73, 78], [73, 83], [78, 85, 76, 76], [67, 79, 85, 78, 84], [77, 73, 78], [77, 65, 88]]
def WordB (s : ByteArray) : Prop := 0 < s.size ∧ letter (byt s 0) = true ∧ ∀ i, i < s.size → part (byt s i) = true
def NameB (s : ByteArray) : Prop := WordB s ∧ s.size ≤ 64 ∧ s.toList ∉ kws
def scB (k : Int) : Bool := decide (1 ≤ k) && decide (k ≤ 4)
def quB (k : Int) : Bool := decide (k = 6) || decide (k = 7)
def ltr (k : Int) : UInt8 := if scB k then 115 else if k = 5 then 102 else if quB k then 113 else 99
def only (l : List UInt8) (c : UInt8) (least : Nat) : Prop := (∀ x ∈ l, x = c) ∧ least ≤ l.length
def cutS (r : List UInt8) : List UInt8 := if r.getLast? = some 99 then r.dropLast else r
def BlkS (l : List UInt8) (n : Int) : Prop := 0 ≤ n ∧ n ≤ l.length ∧ only (l.take n.toNat) 115 0 ∧ only (cutS (l.drop n.toNat)) 102 1
def shortB (n : Int) : Bool := decide (-1000000000000000000 < n) && decide (n < 1000000000000000000)
def FitS (n : Nd) (ks : List Int) : Prop :=
  let l := ks.map ltr
  ((n.S.toList ≠ []) ↔ (n.K = 3 ∨ n.K = 5)) ∧ ((n.T.toList ≠ []) ↔ n.K = 5) ∧
  (n.K = 1 ∨ n.K = 3 ∨ n.K = 4 ∨ n.K = 6 ∨ n.K = 12 ∨ n.N = 0) ∧ (n.K = 4 ∨ n.K = 6 ∨ n.K = 8 ∨ n.K = 9 ∨ n.K = 11 ∨ n.K = 12 ∨ n.M = 0) ∧
  (if n.K = 1 then l = [] ∧ shortB n.N = true
   else if n.K = 2 then l = []
   else if n.K = 3 then l = [] ∧ NameB n.S ∧ 0 ≤ n.N ∧ shortB n.N = true
   else if n.K = 5 then l = [] ∧ NameB n.S ∧ NameB n.T
   else if n.K = 4 then 1 ≤ n.M ∧ n.M ≤ 4 ∧ (n.N = 1 ↔ 1 < n.M) ∧ (n.N = 0 ↔ n.M = 1) ∧ BlkS l n.N
   else if n.K = 6 then (n.M = 0 ∨ n.M = 1) ∧ 1 ≤ n.N ∧ BlkS l n.N
   else if n.K = 7 then (∀ x ∈ ks, x = 6) ∧ 2 ≤ ks.length
   else if n.K = 8 then (1 ≤ n.M ∧ n.M ≤ 6) ∧ l = [115, 115]
   else if n.K = 9 then (n.M = 0 ∨ n.M = 1) ∧ l = [115]
   else if n.K = 10 then l = [113]
   else if n.K = 11 then (n.M = 0 ∨ n.M = 1) ∧ l = [115, 113]
   else if n.K = 12 then (1 ≤ n.M ∧ n.M ≤ 6) ∧ (n.N = 1 ∨ n.N = 2) ∧ l = [115, 113]
   else if n.K = 13 then l = [99]
   else (n.K = 14 ∨ n.K = 15) ∧ only l 99 2)
theorem size_toList (s : ByteArray) : s.toList.length = s.size := by
  cases s
  rw [Go.ByteArray.toList_eq]
  simp [ByteArray.size]
theorem Seg.len {ns : List Nd} {a b : Nat} {ks : List Int} (h : Seg ns a b ks) : ks.length + a ≤ b := by
  induction h with
  | nil a => simp
  | snoc h1 h2 i1 i2 => have := h2.le; simp; omega
theorem Seg.each {ns : List Nd} {a b : Nat} {ks : List Int} (h : Seg ns a b ks) : ∀ j, a ≤ j → j < b → ∃ c, Seg ns c j (kidsAt ns j) := by
  induction h with
  | nil a => intro j h1 h2; omega
  | @snoc a c p ks h1 h2 i1 i2 =>
    intro j e1 e2
    by_cases hc : j < c
    · exact i1 j e1 hc
    · by_cases hp : j = p
      · subst hp; exact ⟨c, h2⟩
      · exact i2 j (by omega) (by omega)
theorem FitS.range {n : Nd} {ks : List Int} (h : FitS n ks) : 1 ≤ n.K ∧ n.K ≤ 15 := by
  by_cases hK : 1 ≤ n.K ∧ n.K ≤ 15
  · exact hK
  · have := h.2.2.2.2
    rw [if_neg (by omega), if_neg (by omega), if_neg (by omega), if_neg (by omega), if_neg (by omega), if_neg (by omega), if_neg (by omega), if_neg (by omega), if_neg (by omega), if_neg (by omega), if_neg (by omega), if_neg (by omega), if_neg (by omega)] at this
    omega
end Go.Proofs.YteebidljiemegaaDoor
namespace Go.Proofs.YteebidljiemegaaDoor
open Go Go.RowKit
theorem bA {w w1 : World} (h : Below w.heap.size w w1) (o : Obj) : Below w.heap.size w (w1.alloc o) := h.alloc h.size o
structure TabAt (w : World) (g : Nat) (l : List Value) : Prop where
  size : g < w.heap.size
  cell : ∀ i, w.cell? ⟨g, i, none⟩ = l[i]?
theorem TabAt.of {w w1 : World} {g : Nat} {l : List Value} (h : TabAt w g l) (hb : Below w.heap.size w w1) : TabAt w1 g l :=
  ⟨Nat.lt_of_lt_of_le h.size hb.size, fun i => (hb.cell (p := ⟨g, i, none⟩) h.size).trans (h.cell i)⟩
theorem TabAt.alloc {w : World} {g : Nat} {l : List Value} (h : TabAt w g l) (o : Obj) : TabAt (w.alloc o) g l := h.of (bA (Below.refl _ _) _)
theorem bcell {W w1 : World} (hb : Below W.heap.size W w1) : (∀ b o, b < W.heap.size → w1.cell? ⟨b, o, none⟩ = W.cell? ⟨b, o, none⟩) ∧ (∀ b o, b < W.heap.size → w1.frozen? ⟨b, o, none⟩ = W.frozen? ⟨b, o, none⟩) :=
  ⟨fun b o h => hb.cell (p := ⟨b, o, none⟩) h, fun b o h => hb.frozen (p := ⟨b, o, none⟩) h⟩
abbrev Std (w0 w : World) : Prop := (∀ b o, b < w0.heap.size → w.cell? ⟨b, o, none⟩ = w0.cell? ⟨b, o, none⟩) ∧ (∀ b o, b < w0.heap.size → w.frozen? ⟨b, o, none⟩ = w0.frozen? ⟨b, o, none⟩) ∧ Below w0.heap.size w0 w
theorem Std.mk {w0 w : World} (h : Below w0.heap.size w0 w) : Std w0 w := ⟨(bcell h).1, (bcell h).2, h⟩
theorem Std.refl (w : World) : Std w w := Std.mk (Below.refl _ _)
theorem Std.drew {w0 w : World} (h : Std w0 w) : Std w0 w.drew := Std.mk h.2.2.drew
theorem Std.alloc {w0 w : World} (h : Std w0 w) (o : Obj) : Std w0 (w.alloc o) := Std.mk (bA h.2.2 o)
theorem Std.call {w0 w w1 : World} (h : Std w0 w) (hb : Below w.heap.size w w1) : Std w0 w1 := Std.mk (h.2.2.trans (hb.mono h.2.2.size))
theorem Std.setCell {w0 w : World} (h : Std w0 w) {p : Addr} (hp : w0.heap.size ≤ p.block) (u : Value) : Std w0 (w.setCell p u) := Std.mk (h.2.2.setCell hp u)
theorem Std.size {w0 w : World} (h : Std w0 w) : w0.heap.size ≤ w.heap.size := h.2.2.size
theorem bT {w w0 w1 : World} (h : Below w.heap.size w w0) (hb : Below w0.heap.size w0 w1) : Below w.heap.size w w1 := h.trans (hb.mono h.size)
theorem hide {p : Prop} (h : p) : Hid p := h
theorem unhide {p : Prop} (h : Hid p) : p := h
structure Box (w : World) (B : Nat) (b : Bool) (n : Int) : Prop where
  size : B < w.heap.size
  c0 : w.cell? ⟨B, 0, none⟩ = some (.bool b)
  c1 : w.cell? ⟨B, 1, none⟩ = some (.int .i64 n)
theorem Box.of {w w1 : World} {B : Nat} {b : Bool} {n : Int} (h : Box w B b n) (hb : Below w.heap.size w w1) : Box w1 B b n :=
  ⟨Nat.lt_of_lt_of_le h.size hb.size, (hb.cell (p := ⟨B, 0, none⟩) h.size).trans h.c0, (hb.cell (p := ⟨B, 1, none⟩) h.size).trans h.c1⟩
end Go.Proofs.YteebidljiemegaaDoor
