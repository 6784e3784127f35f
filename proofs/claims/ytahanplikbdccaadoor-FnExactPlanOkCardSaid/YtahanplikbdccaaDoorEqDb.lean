/-
  TABLES THAT ARE ALIKE.
-/
import Derived.Test.YtahanplikbdccaaDoorDbKit
import Derived.Test.YtahanplikbdccaaDoorGridFns2
import Derived.BigQuiet
import Derived.Deep.RegionHeld3
import Derived.Deep.DeepCutAuto
namespace Go.Proofs.YtahanplikbdccaaDoor
open Go Go.RowKit

theorem eqRows {xss : List (List V2)} (g G g' G' : Nat) (w : World) (hx : MadeRows w g G xss) (hy : MadeRows w g' G' xss) (b1 : xss.length ≤ 1048576) (hx2 : bulk xss ≤ 1048576) :
    Calls Tryd.prog 65 #[.slice (some ⟨G, 0, none⟩) xss.length xss.length, .slice (some ⟨G', 0, none⟩) xss.length xss.length] w fun e w' => e = .returned (.bool true) ∧ Below w.heap.size w w' := by
  obtain ⟨_, h2, rs, h3, h4, h5, _⟩ := hx
  obtain ⟨_, k2, qs, k3, k4, k5, _⟩ := hy
  have l1 : rs.length = xss.length := by rw [← h3]; simp
  have l2 : qs.length = xss.length := by rw [← k3]; simp
  have := eqValSS_calls rs qs G 0 xss.length G' 0 xss.length w h2 k2 h4 k4 h5 k5 (h3.trans k3.symm) (by omega) (fun r hr => Nat.le_trans (bulk_mem (by rw [← h3]; exact List.mem_map_of_mem hr)) hx2)
  rw [l1, l2] at this
  exact this

set_option maxHeartbeats 1000000 in
theorem eqTable_calls (S : ByteArray) (C : Int) (xss : List (List V2)) (g G g' G' : Nat) (w : World) (hx : MadeRows w g G xss) (hy : MadeRows w g' G' xss) (b1 : xss.length ≤ 1048576) (hx2 : bulk xss ≤ 1048576) :
    Calls Tryd.prog 39 #[.agg #[.string S, .int .i64 C, .slice (some ⟨G, 0, none⟩) xss.length xss.length], .agg #[.string S, .int .i64 C, .slice (some ⟨G', 0, none⟩) xss.length xss.length]] w fun e w' => e = .returned (.bool true) ∧ Below w.heap.size w w' := by
  have EI := fun W (hb : Below w.heap.size w W) => eqRows g G g' G' W (hx.of hb) (hy.of hb) b1 hx2
  have HEI := hide EI
  have eC : (C != C) = false := by simp
  have eS : (S.toList == S.toList) = true := by simp
  clear EI hx hy
  go_enter Tryd.func39, Tryd.ntmps39
  go_wp2_with fail
  refine (unhide HEI _ (bA (bA (Below.refl _ _) _) _)).mono ?_; rintro e w1 ⟨rfl, hb1⟩
  go_wp2
  go_ret
  exact ⟨rfl, bT (bA (bA (Below.refl _ _) _) _) hb1⟩

set_option maxHeartbeats 2000000 in
theorem eqTableS_calls (ts : List Tb) (g g' cap cap' : Nat) (w : World) (hg : g < w.heap.size) (hg' : g' < w.heap.size) (hx : TablesAt w g 0 ts) (hy : TablesAt w g' 0 ts) (b1 : ts.length ≤ 1048576) (hk : ∀ t ∈ ts, t.Rows.length ≤ 1048576 ∧ bulk t.Rows ≤ 1048576) :
    Calls Tryd.prog 24 #[.slice (some ⟨g, 0, none⟩) ts.length cap, .slice (some ⟨g', 0, none⟩) ts.length cap'] w fun e w' => e = .returned (.bool true) ∧ Below w.heap.size w w' := by
  have e0 : ((ts.length : Int) != (ts.length : Int)) = false := by simp
  have HX := hide hx; have HY := hide hy; have HK := hide hk
  clear hx hy hk
  go_enter Tryd.func24, Tryd.ntmps24
  go_wp2
  go_loopw [5] (fun c wr => ∃ k : Nat, k ≤ ts.length ∧ c = .int .i64 k ∧ Below w.heap.size w wr) (fun c _ => ts.length - (intOf c).toNat)
  case atStart => exact ⟨0, Nat.zero_le _, rfl, Below.refl _ _⟩
  case round =>
    obtain ⟨k, hk1, rfl, hb⟩ := hrel
    by_cases l1 : k < ts.length
    · obtain ⟨x0, x1, Gx, x2, hmx⟩ := ((unhide HX).of hg hb).at k l1
      obtain ⟨y0, y1, Gy, y2, hmy⟩ := ((unhide HY).of hg' hb).at k l1
      obtain ⟨hkl, hkb⟩ := unhide HK _ (List.getElem_mem l1)
      simp only [Nat.zero_add] at x0 x1 x2 y0 y1 y2
      have j1 : (k : Int) < (ts.length : Int) := by omega
      have q1 : g < wr.heap.size := Nat.lt_of_lt_of_le hg hb.size
      have q2 : g' < wr.heap.size := Nat.lt_of_lt_of_le hg' hb.size
      cases e : ts[k] with | mk S C xss =>
      rw [e] at x0 x1 x2 y0 y1 y2 hmx hmy hkl hkb
      simp only at x0 x1 x2 y0 y1 y2 hmx hmy hkl hkb
      have EN : Hid (∀ W, Std wr W → Calls Tryd.prog 39 #[.agg #[.string S, .int .i64 C, .slice (some ⟨Gx, 0, none⟩) xss.length xss.length], .agg #[.string S, .int .i64 C, .slice (some ⟨Gy, 0, none⟩) xss.length xss.length]] W fun e w' => e = .returned (.bool true) ∧ Below W.heap.size W w') :=
        fun W h => eqTable_calls S C xss g Gx g' Gy W (hmx.of h.2.2) (hmy.of h.2.2) hkl hkb
      clear e hmx hmy
      go_upto_region 6 with fail
      have h1 := Below.refl wr.heap.size wr
      have h2 := h1
      go_region_held3 (Std wr) (repeat (first | with_reducible assumption | with_reducible exact Std.refl _ | with_reducible refine Std.drew ?_ | with_reducible refine Std.alloc ?_ _ | with_reducible refine Std.setCell ?_ ?_ _ | with_reducible refine Std.call ?_ (by with_reducible assumption) | (simp <;> omega) | omega)) (first | (go_at_call 39; refine (unhide EN _ (by assumption)).mono ?_; rintro e w1 ⟨rfl, hb⟩; (first | have n3 := bT h2 hb | have n3 := bT (bA h2 _) hb | have n3 := bT (Below.drew h2) hb | have n3 := bT (Below.drew (bA h2 _)) hb | have n3 := bT (bA (Below.drew h2) _) hb); (first | have n2 := bT h1 hb | have n2 := bT (bA h1 _) hb | have n2 := bT (Below.drew h1) hb | have n2 := bT (Below.drew (bA h1 _)) hb | have n2 := bT (bA (Below.drew h1) _) hb); obtain ⟨c1, f1⟩ := bcell hb; obtain ⟨c2, f2⟩ := bcell n2; obtain ⟨c3, f3⟩ := bcell n3; have hs := hb.size; (try simp at hs); clear h1 h2; have h1 := hb; have h2 := n2; clear n2 hb))
      have hS : Std wr w1 := by assumption
      have d2 := bT hb hS.2.2
      go_wp2
      go_roundw
      case rel => exact ⟨k + 1, by omega, by go_num, d2⟩
      case measure => simp [intOf]; omega
    · go_wp2
      go_ret
      exact ⟨rfl, hb⟩

theorem eqDb_calls (ts : List Tb) (g g' cap cap' : Nat) (w : World) (hg : g < w.heap.size) (hg' : g' < w.heap.size) (hx : TablesAt w g 0 ts) (hy : TablesAt w g' 0 ts) (b1 : ts.length ≤ 1048576) (hk : ∀ t ∈ ts, t.Rows.length ≤ 1048576 ∧ bulk t.Rows ≤ 1048576) :
    Calls Tryd.prog 10 #[.agg #[.slice (some ⟨g, 0, none⟩) ts.length cap], .agg #[.slice (some ⟨g', 0, none⟩) ts.length cap']] w fun e w' => e = .returned (.bool true) ∧ Below w.heap.size w w' := by
  have EN := fun W (hb : Below w.heap.size w W) => eqTableS_calls ts g g' cap cap' W (Nat.lt_of_lt_of_le hg hb.size) (Nat.lt_of_lt_of_le hg' hb.size) (hx.of hg hb) (hy.of hg' hb) b1 hk
  have HEN := hide EN
  clear EN hx hy hk
  go_enter Tryd.func10, Tryd.ntmps10
  go_wp2_with fail
  refine (unhide HEN _ (bA (bA (Below.refl _ _) _) _)).mono ?_; rintro e w1 ⟨rfl, hb1⟩
  go_wp2
  go_ret
  exact ⟨rfl, bT (bA (bA (Below.refl _ _) _) _) hb1⟩
end Go.Proofs.YtahanplikbdccaaDoor
