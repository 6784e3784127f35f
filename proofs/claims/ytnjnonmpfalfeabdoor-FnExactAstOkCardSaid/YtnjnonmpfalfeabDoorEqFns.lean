/-
  TREES THAT ARE ALIKE.
-/
import Derived.Test.YtnjnonmpfalfeabDoorNodeKit
import Derived.BigQuiet
import Derived.Deep.RegionHeld3
import Derived.Deep.DeepCutAuto
namespace Go.Proofs.YtnjnonmpfalfeabDoor
open Go Go.RowKit

set_option maxHeartbeats 1000000 in
theorem eqIntS_calls (xs : List Int) (g g' cap cap' : Nat) (w : World) (hg : g < w.heap.size) (hg' : g' < w.heap.size) (hx : IntsAt w g 0 xs) (hy : IntsAt w g' 0 xs) (b1 : xs.length ≤ 1048576) :
    Calls Tryd.prog 83 #[.slice (some ⟨g, 0, none⟩) xs.length cap, .slice (some ⟨g', 0, none⟩) xs.length cap'] w fun e w' => e = .returned (.bool true) ∧ Below w.heap.size w w' := by
  have e0 : ((xs.length : Int) != (xs.length : Int)) = false := by simp
  go_enter Tryd.func83, Tryd.ntmps83
  go_wp2
  go_loopw [5] (fun c wr => ∃ k : Nat, k ≤ xs.length ∧ c = .int .i64 k ∧ Below w.heap.size w wr) (fun c _ => xs.length - (intOf c).toNat)
  case atStart => exact ⟨0, Nat.zero_le _, rfl, Below.refl _ _⟩
  case round =>
    obtain ⟨k, hk1, rfl, hb⟩ := hrel
    by_cases l1 : k < xs.length
    · have x0 := (hx.of hg hb).at k l1
      have y0 := (hy.of hg' hb).at k l1
      simp only [Nat.zero_add] at x0 y0
      have j1 : (k : Int) < (xs.length : Int) := by omega
      have q1 : g < wr.heap.size := Nat.lt_of_lt_of_le hg hb.size
      have q2 : g' < wr.heap.size := Nat.lt_of_lt_of_le hg' hb.size
      generalize xs[k] = x at *
      have he : (x != x) = false := by simp
      go_upto_region 6 with fail
      go_quiet (fail)
      go_wp2
      go_roundw
      case rel => exact ⟨k + 1, by omega, by go_num, below_drewN hb _⟩
      case measure => simp [intOf]; omega
    · go_wp2
      go_ret
      exact ⟨rfl, hb⟩

set_option maxHeartbeats 1000000 in
theorem eqNode_calls (K N M : Int) (S T : ByteArray) (xs : List Int) (g g' : Nat) (w : World) (hg : g < w.heap.size) (hg' : g' < w.heap.size) (hx : IntsAt w g 0 xs) (hy : IntsAt w g' 0 xs) (b1 : xs.length ≤ 1048576) :
    Calls Tryd.prog 71 #[.agg #[.int .i64 K, .int .i64 N, .int .i64 M, .string S, .string T, .slice (some ⟨g, 0, none⟩) xs.length xs.length], .agg #[.int .i64 K, .int .i64 N, .int .i64 M, .string S, .string T, .slice (some ⟨g', 0, none⟩) xs.length xs.length]] w fun e w' => e = .returned (.bool true) ∧ Below w.heap.size w w' := by
  have EI := fun W (hb : Below w.heap.size w W) => eqIntS_calls xs g g' xs.length xs.length W (Nat.lt_of_lt_of_le hg hb.size) (Nat.lt_of_lt_of_le hg' hb.size) (hx.of hg hb) (hy.of hg' hb) b1
  have HEI := hide EI
  have eK : (K != K) = false := by simp
  have eN : (N != N) = false := by simp
  have eM : (M != M) = false := by simp
  have eS : (S.toList == S.toList) = true := by simp
  have eT : (T.toList == T.toList) = true := by simp
  clear EI hx hy
  go_enter Tryd.func71, Tryd.ntmps71
  go_wp2_with fail
  refine (unhide HEI _ (bA (bA (Below.refl _ _) _) _)).mono ?_; rintro e w1 ⟨rfl, hb1⟩
  go_wp2
  go_ret
  exact ⟨rfl, bT (bA (bA (Below.refl _ _) _) _) hb1⟩

set_option maxHeartbeats 2000000 in
theorem eqNodeS_calls (ns : List Nd) (g g' cap cap' : Nat) (w : World) (hg : g < w.heap.size) (hg' : g' < w.heap.size) (hx : NodesAt w g 0 ns) (hy : NodesAt w g' 0 ns) (b1 : ns.length ≤ 1048576) (hk : ∀ n ∈ ns, n.Kids.length ≤ 1048576) :
    Calls Tryd.prog 50 #[.slice (some ⟨g, 0, none⟩) ns.length cap, .slice (some ⟨g', 0, none⟩) ns.length cap'] w fun e w' => e = .returned (.bool true) ∧ Below w.heap.size w w' := by
  have e0 : ((ns.length : Int) != (ns.length : Int)) = false := by simp
  have HX := hide hx; have HY := hide hy; have HK := hide hk
  clear hx hy hk
  go_enter Tryd.func50, Tryd.ntmps50
  go_wp2
  go_loopw [5] (fun c wr => ∃ k : Nat, k ≤ ns.length ∧ c = .int .i64 k ∧ Below w.heap.size w wr) (fun c _ => ns.length - (intOf c).toNat)
  case atStart => exact ⟨0, Nat.zero_le _, rfl, Below.refl _ _⟩
  case round =>
    obtain ⟨k, hk1, rfl, hb⟩ := hrel
    by_cases l1 : k < ns.length
    · obtain ⟨⟨x0, x1, x2, x3, x4⟩, kx, x5, _, hkx, hix⟩ := ((unhide HX).of hg hb).at k l1
      obtain ⟨⟨y0, y1, y2, y3, y4⟩, ky, y5, _, hky, hiy⟩ := ((unhide HY).of hg' hb).at k l1
      have hkl := unhide HK _ (List.getElem_mem l1)
      simp only [Nat.zero_add] at x0 x1 x2 x3 x4 x5 y0 y1 y2 y3 y4 y5
      have j1 : (k : Int) < (ns.length : Int) := by omega
      have q1 : g < wr.heap.size := Nat.lt_of_lt_of_le hg hb.size
      have q2 : g' < wr.heap.size := Nat.lt_of_lt_of_le hg' hb.size
      cases e : ns[k] with | mk K N M S T ks =>
      rw [e] at x0 x1 x2 x3 x4 x5 y0 y1 y2 y3 y4 y5 hix hiy hkl
      simp only at x0 x1 x2 x3 x4 x5 y0 y1 y2 y3 y4 y5 hix hiy hkl
      have EN : Hid (∀ W, Std wr W → Calls Tryd.prog 71 #[.agg #[.int .i64 K, .int .i64 N, .int .i64 M, .string S, .string T, .slice (some ⟨kx, 0, none⟩) ks.length ks.length], .agg #[.int .i64 K, .int .i64 N, .int .i64 M, .string S, .string T, .slice (some ⟨ky, 0, none⟩) ks.length ks.length]] W fun e w' => e = .returned (.bool true) ∧ Below W.heap.size W w') :=
        fun W h => eqNode_calls K N M S T ks kx ky W (Nat.lt_of_lt_of_le hkx h.2.2.size) (Nat.lt_of_lt_of_le hky h.2.2.size) (hix.of hkx h.2.2) (hiy.of hky h.2.2) hkl
      clear e hix hiy
      go_upto_region 6 with fail
      have h1 := Below.refl wr.heap.size wr
      have h2 := h1
      go_region_held3 (Std wr) (repeat (first | with_reducible assumption | with_reducible exact Std.refl _ | with_reducible refine Std.drew ?_ | with_reducible refine Std.alloc ?_ _ | with_reducible refine Std.setCell ?_ ?_ _ | with_reducible refine Std.call ?_ (by with_reducible assumption) | (simp <;> omega) | omega)) (first | (go_at_call 71; refine (unhide EN _ (by assumption)).mono ?_; rintro e w1 ⟨rfl, hb⟩; (first | have n3 := bT h2 hb | have n3 := bT (bA h2 _) hb | have n3 := bT (Below.drew h2) hb | have n3 := bT (Below.drew (bA h2 _)) hb | have n3 := bT (bA (Below.drew h2) _) hb); (first | have n2 := bT h1 hb | have n2 := bT (bA h1 _) hb | have n2 := bT (Below.drew h1) hb | have n2 := bT (Below.drew (bA h1 _)) hb | have n2 := bT (bA (Below.drew h1) _) hb); obtain ⟨c1, f1⟩ := bcell hb; obtain ⟨c2, f2⟩ := bcell n2; obtain ⟨c3, f3⟩ := bcell n3; have hs := hb.size; (try simp at hs); clear h1 h2; have h1 := hb; have h2 := n2; clear n2 hb))
      have hS : Std wr w1 := by assumption
      have d2 := bT hb hS.2.2
      go_wp2
      go_roundw
      case rel => exact ⟨k + 1, by omega, by go_num, d2⟩
      case measure => simp [intOf]; omega
    · go_wp2
      go_ret
      exact ⟨rfl, hb⟩

theorem eqAst_calls (ns : List Nd) (g g' cap cap' : Nat) (w : World) (hg : g < w.heap.size) (hg' : g' < w.heap.size) (hx : NodesAt w g 0 ns) (hy : NodesAt w g' 0 ns) (b1 : ns.length ≤ 1048576) (hk : ∀ n ∈ ns, n.Kids.length ≤ 1048576) :
    Calls Tryd.prog 28 #[.agg #[.slice (some ⟨g, 0, none⟩) ns.length cap], .agg #[.slice (some ⟨g', 0, none⟩) ns.length cap']] w fun e w' => e = .returned (.bool true) ∧ Below w.heap.size w w' := by
  have EN := fun W (hb : Below w.heap.size w W) => eqNodeS_calls ns g g' cap cap' W (Nat.lt_of_lt_of_le hg hb.size) (Nat.lt_of_lt_of_le hg' hb.size) (hx.of hg hb) (hy.of hg' hb) b1 hk
  have HEN := hide EN
  clear EN hx hy hk
  go_enter Tryd.func28, Tryd.ntmps28
  go_wp2_with fail
  refine (unhide HEN _ (bA (bA (Below.refl _ _) _) _)).mono ?_; rintro e w1 ⟨rfl, hb1⟩
  go_wp2
  go_ret
  exact ⟨rfl, bT (bA (bA (Below.refl _ _) _) _) hb1⟩
end Go.Proofs.YtnjnonmpfalfeabDoor
