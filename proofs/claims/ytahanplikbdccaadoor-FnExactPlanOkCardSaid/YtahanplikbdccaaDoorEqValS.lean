import Derived.Test.YtahanplikbdccaaDoorRowFns
import Derived.Deep.RegionHeld3
import Derived.Deep.DeepCutAuto
namespace Go.Proofs.YtahanplikbdccaaDoor
open Go Go.RowKit
set_option maxHeartbeats 1000000 in
theorem eqValS_calls (xs : List V2) (g off cap g' off' cap' : Nat) (w : World) (hg : g < w.heap.size) (hg' : g' < w.heap.size) (hx : RowAt w g off xs) (hy : RowAt w g' off' xs) (b1 : xs.length ≤ 1048576) :
    Calls Tryd.prog 80 #[.slice (some ⟨g, off, none⟩) xs.length cap, .slice (some ⟨g', off', none⟩) xs.length cap'] w fun e w' => e = .returned (.bool true) ∧ Below w.heap.size w w' := by
  have e0 : ((xs.length : Int) != (xs.length : Int)) = false := by simp
  go_enter Tryd.func80, Tryd.ntmps80
  go_wp2
  go_loopw [5] (fun c wr => ∃ k : Nat, k ≤ xs.length ∧ c = .int .i64 k ∧ Below w.heap.size w wr) (fun c _ => xs.length - (intOf c).toNat)
  case atStart => exact ⟨0, Nat.zero_le _, rfl, Below.refl _ _⟩
  case round =>
    obtain ⟨k, hk1, rfl, hb⟩ := hrel
    by_cases l1 : k < xs.length
    · obtain ⟨x0, x1⟩ := (hx.of hg hb).at k l1
      obtain ⟨y0, y1⟩ := (hy.of hg' hb).at k l1
      have j1 : (k : Int) < (xs.length : Int) := by omega
      have q1 : g < wr.heap.size := Nat.lt_of_lt_of_le hg hb.size
      have q2 : g' < wr.heap.size := Nat.lt_of_lt_of_le hg' hb.size
      have hbool : ((xs[k].1 == xs[k].1) && (xs[k].2 == xs[k].2)) = true := by simp
      go_upto_region 6 with fail
      have h1 := Below.refl wr.heap.size wr
      have h2 := h1
      go_region_held3 (Std wr) (repeat (first | with_reducible assumption | with_reducible exact Std.refl _ | with_reducible refine Std.drew ?_ | with_reducible refine Std.alloc ?_ _ | with_reducible refine Std.setCell ?_ ?_ _ | with_reducible refine Std.call ?_ (by with_reducible assumption) | (simp <;> omega) | omega)) (first | (go_at_call 86; refine (eqVal_calls _ _ _ _ _).mono ?_; rintro e w1 ⟨rfl, hb⟩; (first | have n3 := bT h2 hb | have n3 := bT (bA h2 _) hb | have n3 := bT (Below.drew h2) hb | have n3 := bT (Below.drew (bA h2 _)) hb | have n3 := bT (bA (Below.drew h2) _) hb); (first | have n2 := bT h1 hb | have n2 := bT (bA h1 _) hb | have n2 := bT (Below.drew h1) hb | have n2 := bT (Below.drew (bA h1 _)) hb | have n2 := bT (bA (Below.drew h1) _) hb); obtain ⟨c1, f1⟩ := bcell hb; obtain ⟨c2, f2⟩ := bcell n2; obtain ⟨c3, f3⟩ := bcell n3; have hs := hb.size; (try simp at hs); clear h1 h2; have h1 := hb; have h2 := n2; clear n2 hb))
      have d2 := bT hb h2
      go_wp2
      go_roundw
      case rel => exact ⟨k + 1, by omega, by go_num, d2⟩
      case measure => simp [intOf]; omega
    · go_wp2
      go_ret
      exact ⟨rfl, hb⟩
end Go.Proofs.YtahanplikbdccaaDoor
