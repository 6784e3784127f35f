import Derived.Test.YteebidljiemegaaDoorQ2
import Derived.Test.YteebidljiemegaaDoorQ14
import Derived.Deep.RegionHeld3
import Derived.Deep.DeepCutAuto
import Derived.Test.YteebidljiemegaaDoorGridKit
namespace Go.Proofs.YteebidljiemegaaDoor
open Go Go.RowKit
structure ButB (S : Nat → Prop) (w w' : World) : Prop where
  os : w'.os = w.os
  tape : w'.tape = w.tape
  output : w'.output = w.output
  size : w.heap.size ≤ w'.heap.size
  block : ∀ k, k < w.heap.size → ¬ S k → w'.heap[k]? = w.heap[k]?
theorem ButB.refl (S : Nat → Prop) (w : World) : ButB S w w := ⟨rfl, rfl, rfl, Nat.le_refl _, fun _ _ _ => rfl⟩
theorem ButB.trans {S : Nat → Prop} {w w1 w2 : World} (h : ButB S w w1) (h' : ButB S w1 w2) : ButB S w w2 :=
  ⟨h'.os.trans h.os, h'.tape.trans h.tape, h'.output.trans h.output, Nat.le_trans h.size h'.size, fun k hk hs => (h'.block k (Nat.lt_of_lt_of_le hk h.size) hs).trans (h.block k hk hs)⟩
theorem ButB.mono {S T : Nat → Prop} {w w1 : World} (h : ButB S w w1) (hs : ∀ b, S b → T b) : ButB T w w1 := ⟨h.os, h.tape, h.output, h.size, fun k hk ht => h.block k hk (fun e => ht (hs k e))⟩
theorem ButB.ofBelow {S : Nat → Prop} {w w1 : World} (h : Below w.heap.size w w1) : ButB S w w1 := ⟨h.os, h.tape, h.output, h.size, fun k hk _ => h.block k hk⟩
theorem ButB.below {S : Nat → Prop} {w w1 : World} (h : ButB S w w1) {B : Nat} (hB : B ≤ w.heap.size) (hs : ∀ b, S b → B ≤ b) : Below B w w1 := ⟨h.os, h.tape, h.output, h.size, fun k hk => h.block k (by omega) (fun e => by have := hs k e; omega)⟩
theorem ButB.grown {S : Nat → Prop} {w w1 : World} {row : Option Nat} (hg : w.grownBy w1 row) (hr : ∀ b, row = some b → S b) : ButB S w w1 := ⟨hg.os, hg.tape, hg.output, hg.size, fun k hk hs => hg.block k hk (fun e => hs (hr k e.symm))⟩
theorem ButB.set {S : Nat → Prop} {w w1 : World} (h : ButB S w w1) {g o : Nat} (hg : S g ∨ w.heap.size ≤ g) (v : Value) : ButB S w (w1.setCell ⟨g, o, none⟩ v) := by
  have hb : Below g w1 (w1.setCell ⟨g, o, none⟩ v) := (Below.refl g w1).setCell (p := ⟨g, o, none⟩) (Nat.le_refl _) v
  exact ⟨hb.os.trans h.os, hb.tape.trans h.tape, hb.output.trans h.output, Nat.le_trans h.size hb.size, fun k hk hs => by
    rw [Below.heap_setCell w1 ⟨g, o, none⟩ v k (by dsimp only; intro e; subst e; exact hg.elim hs (fun h1 => absurd hk (by omega)))]
    exact h.block k hk hs⟩
theorem ButB.cell {S : Nat → Prop} {w w1 : World} (h : ButB S w w1) (b o : Nat) (hb : b < w.heap.size) (hs : ¬ S b) : w1.cell? ⟨b, o, none⟩ = w.cell? ⟨b, o, none⟩ := World.cell?_of_block (a := ⟨b, o, none⟩) (h.block b hb hs)
theorem ButB.frz {S : Nat → Prop} {w w1 : World} (h : ButB S w w1) (b o : Nat) (hb : b < w.heap.size) (hs : ¬ S b) : w1.frozen? ⟨b, o, none⟩ = w.frozen? ⟨b, o, none⟩ := World.frozen?_of_block (a := ⟨b, o, none⟩) (h.block b hb hs)
end Go.Proofs.YteebidljiemegaaDoor
namespace Go.Proofs.YteebidljiemegaaDoor
open Go Go.RowKit
set_option maxHeartbeats 1000000 in
theorem eqValS_calls (xs : List V2) (g off cap g' off' cap' : Nat) (w : World) (hg : g < w.heap.size) (hg' : g' < w.heap.size) (hx : RowAt w g off xs) (hy : RowAt w g' off' xs) (b1 : xs.length ≤ 1048576) :
    Calls Tryd.prog 63 #[.slice (some ⟨g, off, none⟩) xs.length cap, .slice (some ⟨g', off', none⟩) xs.length cap'] w fun e w' => e = .returned (.bool true) ∧ Below w.heap.size w w' := by
  have e0 : ((xs.length : Int) != (xs.length : Int)) = false := by simp
  go_enter Tryd.func63, Tryd.ntmps63
  go_wp2
  go_loopw [5] (fun c wr => ∃ k : Nat, k ≤ xs.length ∧ c = .int .i64 k ∧ Below w.heap.size w wr) (fun c _ => xs.length - (intOf c).toNat)
  case atStart => exact ⟨0, Nat.zero_le _, rfl, Below.refl _ _⟩
  case round =>
    obtain ⟨k, hk1, rfl, hb⟩ := hrel
    by_cases l1 : k < xs.length
    · obtain ⟨x0, x1⟩ := (hx.of hg hb).at k l1
      obtain ⟨y0, y1⟩ := (hy.of hg' hb).at k l1
      have j1 : (k : Int) < (xs.length : Int) := by omega
      have q1 : g < wr.heap.size := Nat.lt_of_lt_of_le hg hb.size
      have q2 : g' < wr.heap.size := Nat.lt_of_lt_of_le hg' hb.size
      have hbool : ((xs[k].1 == xs[k].1) && (xs[k].2 == xs[k].2)) = true := by simp
      go_upto_region 6 with fail
      have h1 := Below.refl wr.heap.size wr
      have h2 := h1
      go_region_held3 (Std wr) (repeat (first | with_reducible assumption | with_reducible exact Std.refl _ | with_reducible refine Std.drew ?_ | with_reducible refine Std.alloc ?_ _ | with_reducible refine Std.setCell ?_ ?_ _ | with_reducible refine Std.call ?_ (by with_reducible assumption) | (simp <;> omega) | omega)) (first | (go_at_call 69; refine (eqVal_calls _ _ _ _ _).mono ?_; rintro e w1 ⟨rfl, hb⟩; (first | have n3 := bT h2 hb | have n3 := bT (bA h2 _) hb | have n3 := bT (Below.drew h2) hb | have n3 := bT (Below.drew (bA h2 _)) hb | have n3 := bT (bA (Below.drew h2) _) hb); (first | have n2 := bT h1 hb | have n2 := bT (bA h1 _) hb | have n2 := bT (Below.drew h1) hb | have n2 := bT (Below.drew (bA h1 _)) hb | have n2 := bT (bA (Below.drew h1) _) hb); obtain ⟨c1, f1⟩ := bcell hb; obtain ⟨c2, f2⟩ := bcell n2; obtain ⟨c3, f3⟩ := bcell n3; have hs := hb.size; (try simp at hs); clear h1 h2; have h1 := hb; have h2 := n2; clear n2 hb))
      have d2 := bT hb h2
      go_wp2
      go_roundw
      case rel => exact ⟨k + 1, by omega, by go_num, d2⟩
      case measure => simp [intOf]; omega
    · go_wp2
      go_ret
      exact ⟨rfl, hb⟩
end Go.Proofs.YteebidljiemegaaDoor
namespace Go.Proofs.YteebidljiemegaaDoor
open Go Go.RowKit
end Go.Proofs.YteebidljiemegaaDoor
