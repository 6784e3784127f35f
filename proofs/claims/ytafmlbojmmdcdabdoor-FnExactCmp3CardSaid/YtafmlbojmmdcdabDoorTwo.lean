import Derived.Test.YtafmlbojmmdcdabDoorVals
import Derived.Deep.RegionHeld3
import Derived.Deep.DeepCutAuto
namespace Go.Proofs.YtafmlbojmmdcdabDoor
open Go Go.RowKit
/-- two Vals as parameters, boxed -/
abbrev two (w : World) (b c : Bool) (n m : Int) : World := (w.alloc (.cells #[.bool b, .int .i64 n] 23)).alloc (.cells #[.bool c, .int .i64 m] 23)
theorem cut_rel {w wx : World} {b c r : Bool} {n m k : Int} {B : Nat} (hS : Std (two w b c n m) wx) (hB : B < wx.heap.size) (h0 : wx.cell? ⟨B, 0, none⟩ = some (.bool r)) (h1 : wx.cell? ⟨B, 1, none⟩ = some (.int .i64 k)) (hlt : w.heap.size + 1 < B) :
    ∃ B', Value.pointer (some ⟨B, 0, none⟩) = .pointer (some ⟨B', 0, none⟩) ∧ Box wx B' r k ∧ w.heap.size + 1 < B' ∧ Std (two w b c n m) wx := ⟨B, rfl, ⟨hB, h0, h1⟩, hlt, hS⟩
theorem Std.low {w0 w : World} (h : Std w0 w) : Below w0.heap.size w0 w := h.2.2
theorem two_low {w wx : World} {b c : Bool} {n m : Int} (hS : Std (two w b c n m) wx) : Below w.heap.size w wx := bT (bA (bA (Below.refl _ _) _) _) hS.low
theorem two_box1 {w wx : World} {b c : Bool} {n m : Int} (hS : Std (two w b c n m) wx) : Box wx w.heap.size b n :=
  Box.of (w := two w b c n m) ⟨by simp; omega, by simp [go_sem], by simp [go_sem]⟩ hS.low
theorem two_box2 {w wx : World} {b c : Bool} {n m : Int} (hS : Std (two w b c n m) wx) : Box wx (w.heap.size + 1) c m :=
  Box.of (w := two w b c n m) ⟨by simp, by simp [go_sem], by simp [go_sem]⟩ hS.low
theorem cut_rel2 {w0 wx : World} {r : Bool} {k : Int} {B : Nat} (hS : Std w0 wx) (hB : B < wx.heap.size) (h0 : wx.cell? ⟨B, 0, none⟩ = some (.bool r)) (h1 : wx.cell? ⟨B, 1, none⟩ = some (.int .i64 k)) :
    ∃ B', Value.pointer (some ⟨B, 0, none⟩) = .pointer (some ⟨B', 0, none⟩) ∧ Box wx B' r k ∧ Std w0 wx := ⟨B, rfl, ⟨hB, h0, h1⟩, hS⟩
end Go.Proofs.YtafmlbojmmdcdabDoor
