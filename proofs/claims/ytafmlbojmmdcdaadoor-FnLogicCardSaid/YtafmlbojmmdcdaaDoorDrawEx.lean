import Derived.Test.YtafmlbojmmdcdaaDoorOwnOpsA
import Derived.Test.YtafmlbojmmdcdaaDoorDrawLeaf
namespace Go.Proofs.YtafmlbojmmdcdaaDoor
open Go Go.RowKit
/-- what l1DrawEx leaves -/
structure DEx (w w' : World) (R : Nat) (a : Option Addr) (cap : Nat) (bs : List Nat) (s g c : Nat) (ops : List O2) : Prop where
  own : OwnO w' w.heap.size g c ops
  one : 1 ≤ ops.length
  len : ops.length ≤ 1 ∨ ops.length + 1 ≤ 2 * s
  rd : ∃ q, Rd w' R a cap bs q
  drw : Drw R w w'
variable {w u w2 : World} {R : Nat} {a : Option Addr} {cap : Nat} {bs : List Nat} {s g c g2 c2 : Nat} {ops : List O2}
/-- an Op more -/
theorem push_op (hO : OwnO u w.heap.size g c ops) (hD : Drw R w u) (hRd : ∃ q, Rd u R a cap bs q) (hR : R < w.heap.size) {k n : Int} {o : Obj}
    (hown : w2.ownsRow w.heap.size 39 2 (.slice (some ⟨g2, 0, none⟩) (ops.length + 1) c2) (ops.length + 1) (flatO ops ++ [.int .i64 k, .int .i64 n])) (hgrow : (u.alloc o).grownBy w2 (some g)) :
    OwnO w2 w.heap.size g2 c2 (ops ++ [(k, n)]) ∧ (∃ q, Rd w2 R a cap bs q) ∧ Drw R w w2 := by
  obtain ⟨q, hq⟩ := hRd
  have hl := hO.lt
  have hs := hD.size
  refine ⟨?_, ⟨q, (hq.of (bA (Below.refl _ _) o)).grown (g := g) hgrow (by omega)⟩, (hD.alloc (by omega) o).grown (g := g) hgrow (by omega) (by omega) (by simp; omega)⟩
  unfold OwnO
  rw [flatO_append, List.length_append]
  exact hown
/-- other Ops more -/
theorem push_ops (hO : OwnO u w.heap.size g c ops) (hD : Drw R w u) (hRd : ∃ q, Rd u R a cap bs q) (hR : R < w.heap.size) {ops2 : List O2}
    (hown : w2.ownsRow w.heap.size 39 2 (.slice (some ⟨g2, 0, none⟩) (ops.length + ops2.length) c2) (ops.length + ops2.length) (flatO ops ++ flatO ops2)) (hgrow : u.grownBy w2 (some g)) :
    OwnO w2 w.heap.size g2 c2 (ops ++ ops2) ∧ (∃ q, Rd w2 R a cap bs q) ∧ Drw R w w2 := by
  obtain ⟨q, hq⟩ := hRd
  have hl := hO.lt
  have hs := hD.size
  refine ⟨?_, ⟨q, hq.grown (g := g) hgrow (by omega)⟩, hD.grown (g := g) hgrow (by omega) (by omega) (by omega)⟩
  unfold OwnO
  rw [flatO_append, List.length_append]
  exact hown
end Go.Proofs.YtafmlbojmmdcdaaDoor
