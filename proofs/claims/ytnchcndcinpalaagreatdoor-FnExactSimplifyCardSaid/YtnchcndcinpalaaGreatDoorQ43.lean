import Derived.Test.YtnchcndcinpalaaGreatDoorQ3
import Derived.Test.YtnchcndcinpalaaGreatDoorQ42
import Derived.Deep.RegionHeld3
import Derived.Deep.DeepCutAuto
import Derived.Test.YtnchcndcinpalaaGreatDoorQ5
/-
  PLANS THAT ARE ALIKE.
-/
namespace Go.Proofs.YtnchcndcinpalaaGreatDoor
open Go Go.RowKit

set_option maxHeartbeats 2000000 in
theorem eqOpSS_calls (oss : List (List O2)) (g g' cap cap' : Nat) (w : World) (hg : g < w.heap.size) (hg' : g' < w.heap.size) (hx : OpssAt w g oss) (hy : OpssAt w g' oss) (b1 : oss.length ≤ 1048576) (hk : ∀ xs ∈ oss, xs.length ≤ 1048576) :
    Calls Tryz.prog 109 #[.slice (some ⟨g, 0, none⟩) oss.length cap, .slice (some ⟨g', 0, none⟩) oss.length cap'] w fun e w' => e = .returned (.bool true) ∧ Below w.heap.size w w' := by
  have e0 : ((oss.length : Int) != (oss.length : Int)) = false := by simp
  have HX := hide hx; have HY := hide hy; have HK := hide hk
  clear hx hy hk
  go_enter Tryz.func109, Tryz.ntmps109
  go_wp2
  go_loopw [5] (fun c wr => ∃ k : Nat, k ≤ oss.length ∧ c = .int .i64 k ∧ Below w.heap.size w wr) (fun c _ => oss.length - (intOf c).toNat)
  case atStart => exact ⟨0, Nat.zero_le _, rfl, Below.refl _ _⟩
  case round =>
    obtain ⟨k, hk1, rfl, hb⟩ := hrel
    by_cases l1 : k < oss.length
    · obtain ⟨bx, x0, _, hbx, hox⟩ := ((unhide HX).of hg hb) k oss[k] (List.getElem?_eq_getElem l1)
      obtain ⟨by', y0, _, hby, hoy⟩ := ((unhide HY).of hg' hb) k oss[k] (List.getElem?_eq_getElem l1)
      have hkl := unhide HK _ (List.getElem_mem l1)
      have j1 : (k : Int) < (oss.length : Int) := by omega
      have q1 : g < wr.heap.size := Nat.lt_of_lt_of_le hg hb.size
      have q2 : g' < wr.heap.size := Nat.lt_of_lt_of_le hg' hb.size
      have EN : Hid (∀ W, Std wr W → Calls Tryz.prog 108 #[.slice (some ⟨bx, 0, none⟩) (oss[k]).length (oss[k]).length, .slice (some ⟨by', 0, none⟩) (oss[k]).length (oss[k]).length] W fun e w' => e = .returned (.bool true) ∧ Below W.heap.size W w') :=
        fun W h => eqOpS_calls oss[k] bx 0 _ by' 0 _ W (Nat.lt_of_lt_of_le hbx h.2.2.size) (Nat.lt_of_lt_of_le hby h.2.2.size) (hox.of hbx h.2.2) (hoy.of hby h.2.2) hkl
      clear hox hoy hkl
      generalize (oss[k]).length = n at *
      go_upto_region 6 with fail
      have h1 := Below.refl wr.heap.size wr
      have h2 := h1
      go_region_held3 (Std wr) (repeat (first | with_reducible assumption | with_reducible exact Std.refl _ | with_reducible refine Std.drew ?_ | with_reducible refine Std.alloc ?_ _ | with_reducible refine Std.setCell ?_ ?_ _ | with_reducible refine Std.call ?_ (by with_reducible assumption) | (simp <;> omega) | omega)) (first | (go_at_call 108; refine (unhide EN _ (by assumption)).mono ?_; rintro e w1 ⟨rfl, hb⟩; (first | have n3 := bT h2 hb | have n3 := bT (bA h2 _) hb | have n3 := bT (Below.drew h2) hb | have n3 := bT (Below.drew (bA h2 _)) hb | have n3 := bT (bA (Below.drew h2) _) hb); (first | have n2 := bT h1 hb | have n2 := bT (bA h1 _) hb | have n2 := bT (Below.drew h1) hb | have n2 := bT (Below.drew (bA h1 _)) hb | have n2 := bT (bA (Below.drew h1) _) hb); obtain ⟨c1, f1⟩ := bcell hb; obtain ⟨c2, f2⟩ := bcell n2; obtain ⟨c3, f3⟩ := bcell n3; have hs := hb.size; (try simp at hs); clear h1 h2; have h1 := hb; have h2 := n2; clear n2 hb))
      have hS : Std wr w1 := by assumption
      have d2 := bT hb hS.2.2
      go_wp2
      go_roundw
      case rel => exact ⟨k + 1, by omega, by go_num, d2⟩
      case measure => simp [intOf]; omega
    · go_wp2
      go_ret
      exact ⟨rfl, hb⟩

set_option maxHeartbeats 1000000 in
theorem eqPNode_calls (K T M L R : Int) (xs : List O2) (oss : List (List O2)) (b b' d d' : Nat) (w : World) (hb : b < w.heap.size) (hb' : b' < w.heap.size) (hd : d < w.heap.size) (hd' : d' < w.heap.size) (hx : OpsAt w b 0 xs) (hy : OpsAt w b' 0 xs) (hX : OpssAt w d oss) (hY : OpssAt w d' oss)
    (b1 : xs.length ≤ 1048576) (b2 : oss.length ≤ 1048576) (hk : ∀ xs ∈ oss, xs.length ≤ 1048576) :
    Calls Tryz.prog 89 #[.agg #[.int .i64 K, .int .i64 T, .int .i64 M, .slice (some ⟨b, 0, none⟩) xs.length xs.length, .slice (some ⟨d, 0, none⟩) oss.length oss.length, .int .i64 L, .int .i64 R], .agg #[.int .i64 K, .int .i64 T, .int .i64 M, .slice (some ⟨b', 0, none⟩) xs.length xs.length, .slice (some ⟨d', 0, none⟩) oss.length oss.length, .int .i64 L, .int .i64 R]] w fun e w' => e = .returned (.bool true) ∧ Below w.heap.size w w' := by
  have E1 := fun W (h : Below w.heap.size w W) => eqOpS_calls xs b 0 xs.length b' 0 xs.length W (Nat.lt_of_lt_of_le hb h.size) (Nat.lt_of_lt_of_le hb' h.size) (hx.of hb h) (hy.of hb' h) b1
  have E2 := fun W (h : Below w.heap.size w W) => eqOpSS_calls oss d d' oss.length oss.length W (Nat.lt_of_lt_of_le hd h.size) (Nat.lt_of_lt_of_le hd' h.size) (hX.of hd h) (hY.of hd' h) b2 hk
  have H1 := hide E1; have H2 := hide E2
  have eK : (K != K) = false := by simp
  have eT : (T != T) = false := by simp
  have eM : (M != M) = false := by simp
  have eL : (L != L) = false := by simp
  have eR : (R != R) = false := by simp
  clear E1 E2 hx hy hX hY hk
  go_enter Tryz.func89, Tryz.ntmps89
  go_wp2_with fail
  refine (unhide H1 _ (bA (bA (Below.refl _ _) _) _)).mono ?_; rintro e w1 ⟨rfl, hb1⟩
  have d1 := bT (bA (bA (Below.refl w.heap.size w) _) _) hb1
  obtain ⟨hc, hf⟩ := bcell hb1
  have z0 : w.heap.size < w1.heap.size := by have := hb1.size; simp at this; omega
  have z1 : w.heap.size + 1 < w1.heap.size := by have := hb1.size; simp at this; omega
  clear hb1
  go_wp2_with fail
  refine (unhide H2 _ d1).mono ?_; rintro e w2 ⟨rfl, hb2⟩
  have d2 := bT d1 hb2
  obtain ⟨hc2, hf2⟩ := bcell hb2
  clear hb2
  go_wp2
  go_ret
  exact ⟨rfl, d2⟩

set_option maxHeartbeats 2000000 in
theorem eqPNodeS_calls (ps : List Pn) (g g' cap cap' : Nat) (w : World) (hg : g < w.heap.size) (hg' : g' < w.heap.size) (hx : PnsAt w g 0 ps) (hy : PnsAt w g' 0 ps) (b1 : ps.length ≤ 1048576) (hk : ∀ p ∈ ps, p.Ex.length ≤ 1048576 ∧ p.Exs.length ≤ 1048576 ∧ bulkO p.Exs ≤ 1048576) :
    Calls Tryz.prog 49 #[.slice (some ⟨g, 0, none⟩) ps.length cap, .slice (some ⟨g', 0, none⟩) ps.length cap'] w fun e w' => e = .returned (.bool true) ∧ Below w.heap.size w w' := by
  have e0 : ((ps.length : Int) != (ps.length : Int)) = false := by simp
  have HX := hide hx; have HY := hide hy; have HK := hide hk
  clear hx hy hk
  go_enter Tryz.func49, Tryz.ntmps49
  go_wp2
  go_loopw [5] (fun c wr => ∃ k : Nat, k ≤ ps.length ∧ c = .int .i64 k ∧ Below w.heap.size w wr) (fun c _ => ps.length - (intOf c).toNat)
  case atStart => exact ⟨0, Nat.zero_le _, rfl, Below.refl _ _⟩
  case round =>
    obtain ⟨k, hk1, rfl, hb⟩ := hrel
    by_cases l1 : k < ps.length
    · obtain ⟨x0, x1, x2, x5, x6, ⟨bx, x3, _, hbx, hox⟩, dx, x4, _, hdx, hpx⟩ := ((unhide HX).of hg hb).at k l1
      obtain ⟨y0, y1, y2, y5, y6, ⟨bY, y3, _, hbY, hoy⟩, dY, y4, _, hdY, hpy⟩ := ((unhide HY).of hg' hb).at k l1
      obtain ⟨hk1', hk2', hk3'⟩ := unhide HK _ (List.getElem_mem l1)
      simp only [Nat.zero_add] at x0 x1 x2 x3 x4 x5 x6 y0 y1 y2 y3 y4 y5 y6
      have j1 : (k : Int) < (ps.length : Int) := by omega
      have q1 : g < wr.heap.size := Nat.lt_of_lt_of_le hg hb.size
      have q2 : g' < wr.heap.size := Nat.lt_of_lt_of_le hg' hb.size
      cases e : ps[k] with | mk K T M Ex Exs L R =>
      rw [e] at x0 x1 x2 x3 x4 x5 x6 y0 y1 y2 y3 y4 y5 y6 hox hoy hpx hpy hk1' hk2' hk3'
      simp only at x0 x1 x2 x3 x4 x5 x6 y0 y1 y2 y3 y4 y5 y6 hox hoy hpx hpy hk1' hk2' hk3'
      have EN : Hid (∀ W, Std wr W → Calls Tryz.prog 89 #[.agg #[.int .i64 K, .int .i64 T, .int .i64 M, .slice (some ⟨bx, 0, none⟩) Ex.length Ex.length, .slice (some ⟨dx, 0, none⟩) Exs.length Exs.length, .int .i64 L, .int .i64 R], .agg #[.int .i64 K, .int .i64 T, .int .i64 M, .slice (some ⟨bY, 0, none⟩) Ex.length Ex.length, .slice (some ⟨dY, 0, none⟩) Exs.length Exs.length, .int .i64 L, .int .i64 R]] W fun e w' => e = .returned (.bool true) ∧ Below W.heap.size W w') :=
        fun W h => eqPNode_calls K T M L R Ex Exs bx bY dx dY W (Nat.lt_of_lt_of_le hbx h.2.2.size) (Nat.lt_of_lt_of_le hbY h.2.2.size) (Nat.lt_of_lt_of_le hdx h.2.2.size) (Nat.lt_of_lt_of_le hdY h.2.2.size) (hox.of hbx h.2.2) (hoy.of hbY h.2.2) (hpx.of hdx h.2.2) (hpy.of hdY h.2.2) hk1' hk2' (fun xs hxs => Nat.le_trans (bulkO_mem hxs) hk3')
      clear e hox hoy hpx hpy
      go_upto_region 6 with fail
      have h1 := Below.refl wr.heap.size wr
      have h2 := h1
      go_region_held3 (Std wr) (repeat (first | with_reducible assumption | with_reducible exact Std.refl _ | with_reducible refine Std.drew ?_ | with_reducible refine Std.alloc ?_ _ | with_reducible refine Std.setCell ?_ ?_ _ | with_reducible refine Std.call ?_ (by with_reducible assumption) | (simp <;> omega) | omega)) (first | (go_at_call 89; refine (unhide EN _ (by assumption)).mono ?_; rintro e w1 ⟨rfl, hb⟩; (first | have n3 := bT h2 hb | have n3 := bT (bA h2 _) hb | have n3 := bT (Below.drew h2) hb | have n3 := bT (Below.drew (bA h2 _)) hb | have n3 := bT (bA (Below.drew h2) _) hb); (first | have n2 := bT h1 hb | have n2 := bT (bA h1 _) hb | have n2 := bT (Below.drew h1) hb | have n2 := bT (Below.drew (bA h1 _)) hb | have n2 := bT (bA (Below.drew h1) _) hb); obtain ⟨c1, f1⟩ := bcell hb; obtain ⟨c2, f2⟩ := bcell n2; obtain ⟨c3, f3⟩ := bcell n3; have hs := hb.size; (try simp at hs); clear h1 h2; have h1 := hb; have h2 := n2; clear n2 hb))
      have hS : Std wr w1 := by assumption
      have d2 := bT hb hS.2.2
      go_wp2
      go_roundw
      case rel => exact ⟨k + 1, by omega, by go_num, d2⟩
      case measure => simp [intOf]; omega
    · go_wp2
      go_ret
      exact ⟨rfl, hb⟩

theorem eqPlan_calls (ps : List Pn) (g g' cap cap' : Nat) (w : World) (hg : g < w.heap.size) (hg' : g' < w.heap.size) (hx : PnsAt w g 0 ps) (hy : PnsAt w g' 0 ps) (b1 : ps.length ≤ 1048576) (hk : ∀ p ∈ ps, p.Ex.length ≤ 1048576 ∧ p.Exs.length ≤ 1048576 ∧ bulkO p.Exs ≤ 1048576) :
    Calls Tryz.prog 20 #[.agg #[.slice (some ⟨g, 0, none⟩) ps.length cap], .agg #[.slice (some ⟨g', 0, none⟩) ps.length cap']] w fun e w' => e = .returned (.bool true) ∧ Below w.heap.size w w' := by
  have EN := fun W (hb : Below w.heap.size w W) => eqPNodeS_calls ps g g' cap cap' W (Nat.lt_of_lt_of_le hg hb.size) (Nat.lt_of_lt_of_le hg' hb.size) (hx.of hg hb) (hy.of hg' hb) b1 hk
  have HEN := hide EN
  clear EN hx hy hk
  go_enter Tryz.func20, Tryz.ntmps20
  go_wp2_with fail
  refine (unhide HEN _ (bA (bA (Below.refl _ _) _) _)).mono ?_; rintro e w1 ⟨rfl, hb1⟩
  go_wp2
  go_ret
  exact ⟨rfl, bT (bA (bA (Below.refl _ _) _) _) hb1⟩
end Go.Proofs.YtnchcndcinpalaaGreatDoor
/-
  FLAT PLANS HELD AGAINST EACH OTHER, where they are the same.
-/
namespace Go.Proofs.YtnchcndcinpalaaGreatDoor
open Go Go.RowKit

set_option maxHeartbeats 1000000 in
theorem eqFNode_calls (K T M Wd L R : Int) (xs : List O2) (oss : List (List O2)) (b b' d d' : Nat) (w : World) (hb : b < w.heap.size) (hb' : b' < w.heap.size) (hd : d < w.heap.size) (hd' : d' < w.heap.size) (hx : OpsAt w b 0 xs) (hy : OpsAt w b' 0 xs) (hX : OpssAt w d oss) (hY : OpssAt w d' oss)
    (b1 : xs.length ≤ 1048576) (b2 : oss.length ≤ 1048576) (hk : ∀ xs ∈ oss, xs.length ≤ 1048576) :
    Calls Tryz.prog 71 #[.agg #[.int .i64 K, .int .i64 T, .int .i64 M, .int .i64 Wd, .slice (some ⟨b, 0, none⟩) xs.length xs.length, .slice (some ⟨d, 0, none⟩) oss.length oss.length, .int .i64 L, .int .i64 R], .agg #[.int .i64 K, .int .i64 T, .int .i64 M, .int .i64 Wd, .slice (some ⟨b', 0, none⟩) xs.length xs.length, .slice (some ⟨d', 0, none⟩) oss.length oss.length, .int .i64 L, .int .i64 R]] w fun e w' => e = .returned (.bool true) ∧ Below w.heap.size w w' := by
  have E1 := fun W (h : Below w.heap.size w W) => eqOpS_calls xs b 0 xs.length b' 0 xs.length W (Nat.lt_of_lt_of_le hb h.size) (Nat.lt_of_lt_of_le hb' h.size) (hx.of hb h) (hy.of hb' h) b1
  have E2 := fun W (h : Below w.heap.size w W) => eqOpSS_calls oss d d' oss.length oss.length W (Nat.lt_of_lt_of_le hd h.size) (Nat.lt_of_lt_of_le hd' h.size) (hX.of hd h) (hY.of hd' h) b2 hk
  have H1 := hide E1; have H2 := hide E2
  have eK : (K != K) = false := by simp
  have eT : (T != T) = false := by simp
  have eM : (M != M) = false := by simp
  have eW : (Wd != Wd) = false := by simp
  have eL : (L != L) = false := by simp
  have eR : (R != R) = false := by simp
  clear E1 E2 hx hy hX hY hk
  go_enter Tryz.func71, Tryz.ntmps71
  go_wp2_with fail
  refine (unhide H1 _ (bA (bA (Below.refl _ _) _) _)).mono ?_; rintro e w1 ⟨rfl, hb1⟩
  have d1 := bT (bA (bA (Below.refl w.heap.size w) _) _) hb1
  obtain ⟨hc, hf⟩ := bcell hb1
  have z0 : w.heap.size < w1.heap.size := by have := hb1.size; simp at this; omega
  have z1 : w.heap.size + 1 < w1.heap.size := by have := hb1.size; simp at this; omega
  clear hb1
  go_wp2_with fail
  refine (unhide H2 _ d1).mono ?_; rintro e w2 ⟨rfl, hb2⟩
  have d2 := bT d1 hb2
  obtain ⟨hc2, hf2⟩ := bcell hb2
  clear hb2
  go_wp2
  go_ret
  exact ⟨rfl, d2⟩

set_option maxHeartbeats 2000000 in
theorem eqFNodeS_calls (ps : List Fn) (g g' cap cap' : Nat) (w : World) (hg : g < w.heap.size) (hg' : g' < w.heap.size) (hx : FnsAt w g 0 ps) (hy : FnsAt w g' 0 ps) (b1 : ps.length ≤ 1048576) (hk : ∀ p ∈ ps, p.Ex.length ≤ 1048576 ∧ p.Exs.length ≤ 1048576 ∧ bulkO p.Exs ≤ 1048576) :
    Calls Tryz.prog 37 #[.slice (some ⟨g, 0, none⟩) ps.length cap, .slice (some ⟨g', 0, none⟩) ps.length cap'] w fun e w' => e = .returned (.bool true) ∧ Below w.heap.size w w' := by
  have e0 : ((ps.length : Int) != (ps.length : Int)) = false := by simp
  have HX := hide hx; have HY := hide hy; have HK := hide hk
  clear hx hy hk
  go_enter Tryz.func37, Tryz.ntmps37
  go_wp2
  go_loopw [5] (fun c wr => ∃ k : Nat, k ≤ ps.length ∧ c = .int .i64 k ∧ Below w.heap.size w wr) (fun c _ => ps.length - (intOf c).toNat)
  case atStart => exact ⟨0, Nat.zero_le _, rfl, Below.refl _ _⟩
  case round =>
    obtain ⟨k, hk1, rfl, hb⟩ := hrel
    by_cases l1 : k < ps.length
    · obtain ⟨x0, x1, x2, x3, x6, x7, ⟨bx, x4, _, hbx, hox⟩, dx, x5, _, hdx, hpx⟩ := ((unhide HX).of hg hb).at k l1
      obtain ⟨y0, y1, y2, y3, y6, y7, ⟨bY, y4, _, hbY, hoy⟩, dY, y5, _, hdY, hpy⟩ := ((unhide HY).of hg' hb).at k l1
      obtain ⟨hk1', hk2', hk3'⟩ := unhide HK _ (List.getElem_mem l1)
      simp only [Nat.zero_add] at x0 x1 x2 x3 x4 x5 x6 x7 y0 y1 y2 y3 y4 y5 y6 y7
      have j1 : (k : Int) < (ps.length : Int) := by omega
      have q1 : g < wr.heap.size := Nat.lt_of_lt_of_le hg hb.size
      have q2 : g' < wr.heap.size := Nat.lt_of_lt_of_le hg' hb.size
      cases e : ps[k] with | mk K T M Wd Ex Exs L R =>
      rw [e] at x0 x1 x2 x3 x4 x5 x6 x7 y0 y1 y2 y3 y4 y5 y6 y7 hox hoy hpx hpy hk1' hk2' hk3'
      simp only at x0 x1 x2 x3 x4 x5 x6 x7 y0 y1 y2 y3 y4 y5 y6 y7 hox hoy hpx hpy hk1' hk2' hk3'
      have EN : Hid (∀ W, Std wr W → Calls Tryz.prog 71 #[.agg #[.int .i64 K, .int .i64 T, .int .i64 M, .int .i64 Wd, .slice (some ⟨bx, 0, none⟩) Ex.length Ex.length, .slice (some ⟨dx, 0, none⟩) Exs.length Exs.length, .int .i64 L, .int .i64 R], .agg #[.int .i64 K, .int .i64 T, .int .i64 M, .int .i64 Wd, .slice (some ⟨bY, 0, none⟩) Ex.length Ex.length, .slice (some ⟨dY, 0, none⟩) Exs.length Exs.length, .int .i64 L, .int .i64 R]] W fun e w' => e = .returned (.bool true) ∧ Below W.heap.size W w') :=
        fun W h => eqFNode_calls K T M Wd L R Ex Exs bx bY dx dY W (Nat.lt_of_lt_of_le hbx h.2.2.size) (Nat.lt_of_lt_of_le hbY h.2.2.size) (Nat.lt_of_lt_of_le hdx h.2.2.size) (Nat.lt_of_lt_of_le hdY h.2.2.size) (hox.of hbx h.2.2) (hoy.of hbY h.2.2) (hpx.of hdx h.2.2) (hpy.of hdY h.2.2) hk1' hk2' (fun xs hxs => Nat.le_trans (bulkO_mem hxs) hk3')
      clear e hox hoy hpx hpy
      go_upto_region 6 with fail
      have h1 := Below.refl wr.heap.size wr
      have h2 := h1
      go_region_held3 (Std wr) (repeat (first | with_reducible assumption | with_reducible exact Std.refl _ | with_reducible refine Std.drew ?_ | with_reducible refine Std.alloc ?_ _ | with_reducible refine Std.setCell ?_ ?_ _ | with_reducible refine Std.call ?_ (by with_reducible assumption) | (simp <;> omega) | omega)) (first | (go_at_call 71; refine (unhide EN _ (by assumption)).mono ?_; rintro e w1 ⟨rfl, hb⟩; (first | have n3 := bT h2 hb | have n3 := bT (bA h2 _) hb | have n3 := bT (Below.drew h2) hb | have n3 := bT (Below.drew (bA h2 _)) hb | have n3 := bT (bA (Below.drew h2) _) hb); (first | have n2 := bT h1 hb | have n2 := bT (bA h1 _) hb | have n2 := bT (Below.drew h1) hb | have n2 := bT (Below.drew (bA h1 _)) hb | have n2 := bT (bA (Below.drew h1) _) hb); obtain ⟨c1, f1⟩ := bcell hb; obtain ⟨c2, f2⟩ := bcell n2; obtain ⟨c3, f3⟩ := bcell n3; have hs := hb.size; (try simp at hs); clear h1 h2; have h1 := hb; have h2 := n2; clear n2 hb))
      have hS : Std wr w1 := by assumption
      have d2 := bT hb hS.2.2
      go_wp2
      go_roundw
      case rel => exact ⟨k + 1, by omega, by go_num, d2⟩
      case measure => simp [intOf]; omega
    · go_wp2
      go_ret
      exact ⟨rfl, hb⟩

theorem eqFlat_calls (Rt : Int) (ps : List Fn) (g g' cap cap' : Nat) (w : World) (hg : g < w.heap.size) (hg' : g' < w.heap.size) (hx : FnsAt w g 0 ps) (hy : FnsAt w g' 0 ps) (b1 : ps.length ≤ 1048576) (hk : ∀ p ∈ ps, p.Ex.length ≤ 1048576 ∧ p.Exs.length ≤ 1048576 ∧ bulkO p.Exs ≤ 1048576) :
    Calls Tryz.prog 11 #[.agg #[.slice (some ⟨g, 0, none⟩) ps.length cap, .int .i64 Rt], .agg #[.slice (some ⟨g', 0, none⟩) ps.length cap', .int .i64 Rt]] w fun e w' => e = .returned (.bool true) ∧ Below w.heap.size w w' := by
  have EN := fun W (hb : Below w.heap.size w W) => eqFNodeS_calls ps g g' cap cap' W (Nat.lt_of_lt_of_le hg hb.size) (Nat.lt_of_lt_of_le hg' hb.size) (hx.of hg hb) (hy.of hg' hb) b1 hk
  have HEN := hide EN
  have eR : (Rt != Rt) = false := by simp
  clear EN hx hy hk
  go_enter Tryz.func11, Tryz.ntmps11
  go_wp2_with fail
  refine (unhide HEN _ (bA (bA (Below.refl _ _) _) _)).mono ?_; rintro e w1 ⟨rfl, hb1⟩
  obtain ⟨hc, hf⟩ := bcell hb1
  have z0 : w.heap.size < w1.heap.size := by have := hb1.size; simp at this; omega
  have z1 : w.heap.size + 1 < w1.heap.size := by have := hb1.size; simp at this; omega
  have d1 := bT (bA (bA (Below.refl w.heap.size w) _) _) hb1
  clear hb1
  go_wp2
  go_ret
  exact ⟨rfl, d1⟩
end Go.Proofs.YtnchcndcinpalaaGreatDoor
/-
  FLAT PLANS HELD AGAINST EACH OTHER, where they are the same, whatever their slices' capacities and empty slices are.
-/
namespace Go.Proofs.YtnchcndcinpalaaGreatDoor
open Go Go.RowKit

set_option maxHeartbeats 1000000 in
theorem eqOpS_nil (a a' : Option Addr) (c c' : Nat) (w : World) : Calls Tryz.prog 108 #[.slice a 0 c, .slice a' 0 c'] w fun e w' => e = .returned (.bool true) ∧ Below w.heap.size w w' := by
  go_enter Tryz.func108, Tryz.ntmps108
  go_wp2
  go_loopw [5] (fun c wr => c = .int .i64 0 ∧ Below w.heap.size w wr) (fun _ _ => 0)
  case atStart => exact ⟨rfl, Below.refl _ _⟩
  case round =>
    obtain ⟨rfl, hb⟩ := hrel
    go_wp2
    go_ret
    exact ⟨rfl, hb⟩
theorem eqOpS_is (u u' : Value) (xs : List O2) (w : World) (h : IsOps w u xs) (h' : IsOps w u' xs) (b1 : xs.length ≤ 1048576) : Calls Tryz.prog 108 #[u, u'] w fun e w' => e = .returned (.bool true) ∧ Below w.heap.size w w' := by
  by_cases hx : xs = []
  · subst hx
    obtain ⟨a, c, rfl⟩ := isOps_slice h
    obtain ⟨a', c', rfl⟩ := isOps_slice h'
    exact eqOpS_nil a a' c c' w
  · rcases h with ⟨e, _⟩ | ⟨g, off, cap, rfl, _, hg, ho⟩
    · exact absurd e hx
    rcases h' with ⟨e, _⟩ | ⟨g', off', cap', rfl, _, hg', ho'⟩
    · exact absurd e hx
    exact eqOpS_calls xs g off cap g' off' cap' w hg hg' ho ho' b1

set_option maxHeartbeats 1000000 in
theorem eqOpSS_nil (a a' : Option Addr) (c c' : Nat) (w : World) : Calls Tryz.prog 109 #[.slice a 0 c, .slice a' 0 c'] w fun e w' => e = .returned (.bool true) ∧ Below w.heap.size w w' := by
  go_enter Tryz.func109, Tryz.ntmps109
  go_wp2
  go_loopw [5] (fun c wr => c = .int .i64 0 ∧ Below w.heap.size w wr) (fun _ _ => 0)
  case atStart => exact ⟨rfl, Below.refl _ _⟩
  case round =>
    obtain ⟨rfl, hb⟩ := hrel
    go_wp2
    go_ret
    exact ⟨rfl, hb⟩
set_option maxHeartbeats 2000000 in
theorem eqOpSS_is (u u' : Value) (oss : List (List O2)) (w : World) (h : IsOpss w u oss) (h' : IsOpss w u' oss) (b1 : oss.length ≤ 1048576) (hk : ∀ xs ∈ oss, xs.length ≤ 1048576) : Calls Tryz.prog 109 #[u, u'] w fun e w' => e = .returned (.bool true) ∧ Below w.heap.size w w' := by
  by_cases hx : oss = []
  · subst hx
    have s : ∀ {v : Value}, IsOpss w v [] → ∃ a c, v = .slice a 0 c := fun {v} hv => by
      rcases hv with ⟨_, a, c, rfl⟩ | ⟨g, off, cap, rfl, _⟩
      · exact ⟨a, c, rfl⟩
      · exact ⟨_, _, rfl⟩
    obtain ⟨a, c, rfl⟩ := s h
    obtain ⟨a', c', rfl⟩ := s h'
    exact eqOpSS_nil a a' c c' w
  · rcases h with ⟨e, _⟩ | ⟨g, off, cap, rfl, hg, ho⟩
    · exact absurd e hx
    rcases h' with ⟨e, _⟩ | ⟨g', off', cap', rfl, hg', ho'⟩
    · exact absurd e hx
    have e0 : ((oss.length : Int) != (oss.length : Int)) = false := by simp
    have HX := hide ho; have HY := hide ho'; have HK := hide hk
    clear ho ho' hk hx
    go_enter Tryz.func109, Tryz.ntmps109
    go_wp2
    go_loopw [5] (fun c wr => ∃ k : Nat, k ≤ oss.length ∧ c = .int .i64 k ∧ Below w.heap.size w wr) (fun c _ => oss.length - (intOf c).toNat)
    case atStart => exact ⟨0, Nat.zero_le _, rfl, Below.refl _ _⟩
    case round =>
      obtain ⟨k, hk1, rfl, hb⟩ := hrel
      by_cases l1 : k < oss.length
      · obtain ⟨ux, x0', hox⟩ := unhide HX k oss[k] (List.getElem?_eq_getElem l1)
        obtain ⟨uy, y0', hoy⟩ := unhide HY k oss[k] (List.getElem?_eq_getElem l1)
        have x0 := (hb.cell (p := ⟨g, off + k, none⟩) hg).trans x0'
        have y0 := (hb.cell (p := ⟨g', off' + k, none⟩) hg').trans y0'
        obtain ⟨a, ca, rfl⟩ := isOps_slice hox
        obtain ⟨a', ca', rfl⟩ := isOps_slice hoy
        have hkl := unhide HK _ (List.getElem_mem l1)
        have j1 : (k : Int) < (oss.length : Int) := by omega
        have q1 : g < wr.heap.size := Nat.lt_of_lt_of_le hg hb.size
        have q2 : g' < wr.heap.size := Nat.lt_of_lt_of_le hg' hb.size
        have EN : Hid (∀ W, Std wr W → Calls Tryz.prog 108 #[.slice a (oss[k]).length ca, .slice a' (oss[k]).length ca'] W fun e w' => e = .returned (.bool true) ∧ Below W.heap.size W w') :=
          fun W h => eqOpS_is _ _ oss[k] W ((hox.of hb).of h.2.2) ((hoy.of hb).of h.2.2) hkl
        clear hox hoy hkl x0' y0'
        generalize (oss[k]).length = n at *
        go_upto_region 6 with fail
        have h1 := Below.refl wr.heap.size wr
        have h2 := h1
        go_region_held3 (Std wr) (repeat (first | with_reducible assumption | with_reducible exact Std.refl _ | with_reducible refine Std.drew ?_ | with_reducible refine Std.alloc ?_ _ | with_reducible refine Std.setCell ?_ ?_ _ | with_reducible refine Std.call ?_ (by with_reducible assumption) | (simp <;> omega) | omega)) (first | (go_at_call 108; refine (unhide EN _ (by assumption)).mono ?_; rintro e w1 ⟨rfl, hb⟩; (first | have n3 := bT h2 hb | have n3 := bT (bA h2 _) hb | have n3 := bT (Below.drew h2) hb | have n3 := bT (Below.drew (bA h2 _)) hb | have n3 := bT (bA (Below.drew h2) _) hb); (first | have n2 := bT h1 hb | have n2 := bT (bA h1 _) hb | have n2 := bT (Below.drew h1) hb | have n2 := bT (Below.drew (bA h1 _)) hb | have n2 := bT (bA (Below.drew h1) _) hb); obtain ⟨c1, f1⟩ := bcell hb; obtain ⟨c2, f2⟩ := bcell n2; obtain ⟨c3, f3⟩ := bcell n3; have hs := hb.size; (try simp at hs); clear h1 h2; have h1 := hb; have h2 := n2; clear n2 hb))
        have hS : Std wr w1 := by assumption
        have d2 := bT hb hS.2.2
        go_wp2
        go_roundw
        case rel => exact ⟨k + 1, by omega, by go_num, d2⟩
        case measure => simp [intOf]; omega
      · go_wp2
        go_ret
        exact ⟨rfl, hb⟩

set_option maxHeartbeats 1000000 in
theorem eqFNode_is (K T M Wd L R : Int) (xs : List O2) (oss : List (List O2)) (a4 a5 b4 b5 : Option Addr) (n4 n5 c4 c5 e4 e5 : Nat) (w : World) (h4 : IsOps w (.slice a4 n4 c4) xs) (h4' : IsOps w (.slice b4 n4 e4) xs) (h5 : IsOpss w (.slice a5 n5 c5) oss) (h5' : IsOpss w (.slice b5 n5 e5) oss)
    (b1 : xs.length ≤ 1048576) (b2 : oss.length ≤ 1048576) (hk : ∀ xs ∈ oss, xs.length ≤ 1048576) :
    Calls Tryz.prog 71 #[.agg #[.int .i64 K, .int .i64 T, .int .i64 M, .int .i64 Wd, .slice a4 n4 c4, .slice a5 n5 c5, .int .i64 L, .int .i64 R], .agg #[.int .i64 K, .int .i64 T, .int .i64 M, .int .i64 Wd, .slice b4 n4 e4, .slice b5 n5 e5, .int .i64 L, .int .i64 R]] w fun e w' => e = .returned (.bool true) ∧ Below w.heap.size w w' := by
  have H1 := hide (fun W (h : Below w.heap.size w W) => eqOpS_is _ _ xs W (h4.of h) (h4'.of h) b1)
  have H2 := hide (fun W (h : Below w.heap.size w W) => eqOpSS_is _ _ oss W (h5.of h) (h5'.of h) b2 hk)
  have eK : (K != K) = false := by simp
  have eT : (T != T) = false := by simp
  have eM : (M != M) = false := by simp
  have eW : (Wd != Wd) = false := by simp
  have eL : (L != L) = false := by simp
  have eR : (R != R) = false := by simp
  clear h4 h4' h5 h5' hk
  go_enter Tryz.func71, Tryz.ntmps71
  go_wp2_with fail
  refine (unhide H1 _ (bA (bA (Below.refl _ _) _) _)).mono ?_; rintro e w1 ⟨rfl, hb1⟩
  have d1 := bT (bA (bA (Below.refl w.heap.size w) _) _) hb1
  obtain ⟨hc, hf⟩ := bcell hb1
  have z0 : w.heap.size < w1.heap.size := by have := hb1.size; simp at this; omega
  have z1 : w.heap.size + 1 < w1.heap.size := by have := hb1.size; simp at this; omega
  clear hb1
  go_wp2_with fail
  refine (unhide H2 _ d1).mono ?_; rintro e w2 ⟨rfl, hb2⟩
  have d2 := bT d1 hb2
  obtain ⟨hc2, hf2⟩ := bcell hb2
  clear hb2
  go_wp2
  go_ret
  exact ⟨rfl, d2⟩

set_option maxHeartbeats 1000000 in
theorem eqFNodeS_nil (a a' : Option Addr) (c c' : Nat) (w : World) : Calls Tryz.prog 37 #[.slice a 0 c, .slice a' 0 c'] w fun e w' => e = .returned (.bool true) ∧ Below w.heap.size w w' := by
  go_enter Tryz.func37, Tryz.ntmps37
  go_wp2
  go_loopw [5] (fun c wr => c = .int .i64 0 ∧ Below w.heap.size w wr) (fun _ _ => 0)
  case atStart => exact ⟨rfl, Below.refl _ _⟩
  case round =>
    obtain ⟨rfl, hb⟩ := hrel
    go_wp2
    go_ret
    exact ⟨rfl, hb⟩
set_option maxHeartbeats 4000000 in
theorem eqFNodeS_is (u u' : Value) (ps : List Fn) (w : World) (h : IsFns w u ps) (h' : IsFns w u' ps) (b1 : ps.length ≤ 1048576) (hk : ∀ p ∈ ps, p.Ex.length ≤ 1048576 ∧ p.Exs.length ≤ 1048576 ∧ ∀ xs ∈ p.Exs, xs.length ≤ 1048576) : Calls Tryz.prog 37 #[u, u'] w fun e w' => e = .returned (.bool true) ∧ Below w.heap.size w w' := by
  by_cases hx : ps = []
  · subst hx
    obtain ⟨a, c, rfl⟩ := isFns_slice h
    obtain ⟨a', c', rfl⟩ := isFns_slice h'
    exact eqFNodeS_nil a a' c c' w
  · rcases h with ⟨e, _⟩ | ⟨g, off, cap, rfl, hg, ho⟩
    · exact absurd e hx
    rcases h' with ⟨e, _⟩ | ⟨g', off', cap', rfl, hg', ho'⟩
    · exact absurd e hx
    have e0 : ((ps.length : Int) != (ps.length : Int)) = false := by simp
    have HX := hide ho; have HY := hide ho'; have HK := hide hk
    clear ho ho' hk hx
    go_enter Tryz.func37, Tryz.ntmps37
    go_wp2
    go_loopw [5] (fun c wr => ∃ k : Nat, k ≤ ps.length ∧ c = .int .i64 k ∧ Below w.heap.size w wr) (fun c _ => ps.length - (intOf c).toNat)
    case atStart => exact ⟨0, Nat.zero_le _, rfl, Below.refl _ _⟩
    case round =>
      obtain ⟨k, hk1, rfl, hb⟩ := hrel
      by_cases l1 : k < ps.length
      · obtain ⟨x0, x1, x2, x3, x6, x7, ⟨ux, x4, hox⟩, vx, x5, hpx⟩ := unhide HX k ps[k] (List.getElem?_eq_getElem l1)
        obtain ⟨y0, y1, y2, y3, y6, y7, ⟨uy, y4, hoy⟩, vy, y5, hpy⟩ := unhide HY k ps[k] (List.getElem?_eq_getElem l1)
        obtain ⟨hk1', hk2', hk3'⟩ := unhide HK _ (List.getElem_mem l1)
        replace x0 := (hb.cell (p := ⟨g, off + k * 8, none⟩) hg).trans x0
        replace x1 := (hb.cell (p := ⟨g, off + k * 8 + 1, none⟩) hg).trans x1
        replace x2 := (hb.cell (p := ⟨g, off + k * 8 + 2, none⟩) hg).trans x2
        replace x3 := (hb.cell (p := ⟨g, off + k * 8 + 3, none⟩) hg).trans x3
        replace x4 := (hb.cell (p := ⟨g, off + k * 8 + 4, none⟩) hg).trans x4
        replace x5 := (hb.cell (p := ⟨g, off + k * 8 + 5, none⟩) hg).trans x5
        replace x6 := (hb.cell (p := ⟨g, off + k * 8 + 6, none⟩) hg).trans x6
        replace x7 := (hb.cell (p := ⟨g, off + k * 8 + 7, none⟩) hg).trans x7
        replace y0 := (hb.cell (p := ⟨g', off' + k * 8, none⟩) hg').trans y0
        replace y1 := (hb.cell (p := ⟨g', off' + k * 8 + 1, none⟩) hg').trans y1
        replace y2 := (hb.cell (p := ⟨g', off' + k * 8 + 2, none⟩) hg').trans y2
        replace y3 := (hb.cell (p := ⟨g', off' + k * 8 + 3, none⟩) hg').trans y3
        replace y4 := (hb.cell (p := ⟨g', off' + k * 8 + 4, none⟩) hg').trans y4
        replace y5 := (hb.cell (p := ⟨g', off' + k * 8 + 5, none⟩) hg').trans y5
        replace y6 := (hb.cell (p := ⟨g', off' + k * 8 + 6, none⟩) hg').trans y6
        replace y7 := (hb.cell (p := ⟨g', off' + k * 8 + 7, none⟩) hg').trans y7
        have j1 : (k : Int) < (ps.length : Int) := by omega
        have q1 : g < wr.heap.size := Nat.lt_of_lt_of_le hg hb.size
        have q2 : g' < wr.heap.size := Nat.lt_of_lt_of_le hg' hb.size
        obtain ⟨a4, c4, rfl⟩ := isOps_slice hox
        obtain ⟨b4, e4, rfl⟩ := isOps_slice hoy
        obtain ⟨a5, c5, rfl⟩ := isOpss_slice hpx
        obtain ⟨b5, e5, rfl⟩ := isOpss_slice hpy
        generalize e : ps[k] = pk at *
        clear e
        obtain ⟨K, T, M, Wd, Ex, Exs, L, R⟩ := pk
        simp only at x0 x1 x2 x3 x4 x5 x6 x7 y0 y1 y2 y3 y4 y5 y6 y7 hox hoy hpx hpy hk1' hk2' hk3'
        have EN : Hid (∀ W, Std wr W → Calls Tryz.prog 71 #[.agg #[.int .i64 K, .int .i64 T, .int .i64 M, .int .i64 Wd, .slice a4 Ex.length c4, .slice a5 Exs.length c5, .int .i64 L, .int .i64 R], .agg #[.int .i64 K, .int .i64 T, .int .i64 M, .int .i64 Wd, .slice b4 Ex.length e4, .slice b5 Exs.length e5, .int .i64 L, .int .i64 R]] W fun e w' => e = .returned (.bool true) ∧ Below W.heap.size W w') :=
          fun W h => eqFNode_is K T M Wd L R Ex Exs a4 a5 b4 b5 _ _ c4 c5 e4 e5 W ((hox.of hb).of h.2.2) ((hoy.of hb).of h.2.2) ((hpx.of hb).of h.2.2) ((hpy.of hb).of h.2.2) hk1' hk2' hk3'
        clear hox hoy hpx hpy hk3'
        generalize Ex.length = n4 at *
        generalize Exs.length = n5 at *
        go_upto_region 6 with fail
        have h1 := Below.refl wr.heap.size wr
        have h2 := h1
        go_region_held3 (Std wr) (repeat (first | with_reducible assumption | with_reducible exact Std.refl _ | with_reducible refine Std.drew ?_ | with_reducible refine Std.alloc ?_ _ | with_reducible refine Std.setCell ?_ ?_ _ | with_reducible refine Std.call ?_ (by with_reducible assumption) | (simp <;> omega) | omega)) (first | (go_at_call 71; refine (unhide EN _ (by assumption)).mono ?_; rintro e w1 ⟨rfl, hb⟩; (first | have n3 := bT h2 hb | have n3 := bT (bA h2 _) hb | have n3 := bT (Below.drew h2) hb | have n3 := bT (Below.drew (bA h2 _)) hb | have n3 := bT (bA (Below.drew h2) _) hb); (first | have n2 := bT h1 hb | have n2 := bT (bA h1 _) hb | have n2 := bT (Below.drew h1) hb | have n2 := bT (Below.drew (bA h1 _)) hb | have n2 := bT (bA (Below.drew h1) _) hb); obtain ⟨c1, f1⟩ := bcell hb; obtain ⟨c2, f2⟩ := bcell n2; obtain ⟨c3, f3⟩ := bcell n3; have hs := hb.size; (try simp at hs); clear h1 h2; have h1 := hb; have h2 := n2; clear n2 hb))
        have hS : Std wr w1 := by assumption
        have d2 := bT hb hS.2.2
        go_wp2
        go_roundw
        case rel => exact ⟨k + 1, by omega, by go_num, d2⟩
        case measure => simp [intOf]; omega
      · go_wp2
        go_ret
        exact ⟨rfl, hb⟩

set_option maxHeartbeats 1000000 in
theorem eqFlat_is (Rt : Int) (ps : List Fn) (a a' : Option Addr) (n c c' : Nat) (w : World) (h : IsFns w (.slice a n c) ps) (h' : IsFns w (.slice a' n c') ps) (b1 : ps.length ≤ 1048576) (hk : ∀ p ∈ ps, p.Ex.length ≤ 1048576 ∧ p.Exs.length ≤ 1048576 ∧ ∀ xs ∈ p.Exs, xs.length ≤ 1048576) :
    Calls Tryz.prog 11 #[.agg #[.slice a n c, .int .i64 Rt], .agg #[.slice a' n c', .int .i64 Rt]] w fun e w' => e = .returned (.bool true) ∧ Below w.heap.size w w' := by
  have HEN := hide (fun W (hb : Below w.heap.size w W) => eqFNodeS_is _ _ ps W (h.of hb) (h'.of hb) b1 hk)
  have eR : (Rt != Rt) = false := by simp
  clear h h' hk
  go_enter Tryz.func11, Tryz.ntmps11
  go_wp2_with fail
  refine (unhide HEN _ (bA (bA (Below.refl _ _) _) _)).mono ?_; rintro e w1 ⟨rfl, hb1⟩
  obtain ⟨hc, hf⟩ := bcell hb1
  have z0 : w.heap.size < w1.heap.size := by have := hb1.size; simp at this; omega
  have z1 : w.heap.size + 1 < w1.heap.size := by have := hb1.size; simp at this; omega
  have d1 := bT (bA (bA (Below.refl w.heap.size w) _) _) hb1
  clear hb1
  go_wp2
  go_ret
  exact ⟨rfl, d1⟩
end Go.Proofs.YtnchcndcinpalaaGreatDoor
