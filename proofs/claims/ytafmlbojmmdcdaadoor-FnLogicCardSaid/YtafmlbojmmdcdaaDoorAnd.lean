import Derived.Test.YtafmlbojmmdcdaaDoorTruth
import Derived.Deep.RegionHeld3
import Derived.Deep.DeepCutAuto
namespace Go.Proofs.YtafmlbojmmdcdaaDoor
open Go Go.RowKit

abbrev TAnd (w : World) : Prop := TabAt w 2 [.int .i64 0, .int .i64 0, .int .i64 0, .int .i64 0, .int .i64 1, .int .i64 1, .int .i64 0, .int .i64 1, .int .i64 2]
theorem and_look {w : World} (h : TAnd w) (x y : Nat) (hx : x ≤ 2) (hy : y ≤ 2) : w.cell? ⟨2, x * 3 + y, none⟩ = some (.int .i64 ((min x y : Nat) : Int)) := by
  rw [h.cell]
  have e1 : x = 0 ∨ x = 1 ∨ x = 2 := by omega
  have e2 : y = 0 ∨ y = 1 ∨ y = 2 := by omega
  rcases e1 with rfl | rfl | rfl <;> rcases e2 with rfl | rfl | rfl <;> rfl

set_option maxHeartbeats 1000000 in
theorem And3_calls (b c : Bool) (n m : Int) (w : World) (hTv : TVal w) (hTa : TAnd w) :
    Calls Tryd.prog 8 #[.agg #[.bool b, .int .i64 n], .agg #[.bool c, .int .i64 m]] w fun e w' => e = .returned (.agg #[.bool (vB (min (tr b n) (tr c m))), .int .i64 (vI (min (tr b n) (tr c m)))]) ∧ Below w.heap.size w w' := by
  obtain ⟨x, hx, hx2⟩ := tr_nat b n
  obtain ⟨y, hy, hy2⟩ := tr_nat c m
  have ha := and_look hTa x y hx2 hy2
  have hz1 := hTv.size
  have hz2 := hTa.size
  have z0_0 : 0 < w.heap.size := (by have := hz1; omega); have z0_1 : 0 < w.heap.size + 1 := (by have := hz1; omega); have z0_2 : 0 < w.heap.size + 1 + 1 := (by have := hz1; omega); have z0_3 : 0 < w.heap.size + 1 + 1 + 1 := (by have := hz1; omega); have z0_4 : 0 < w.heap.size + 1 + 1 + 1 + 1 := (by have := hz1; omega)
  have z2_0 : 2 < w.heap.size := (by have := hz2; omega); have z2_1 : 2 < w.heap.size + 1 := (by have := hz2; omega); have z2_2 : 2 < w.heap.size + 1 + 1 := (by have := hz2; omega); have z2_3 : 2 < w.heap.size + 1 + 1 + 1 := (by have := hz2; omega); have z2_4 : 2 < w.heap.size + 1 + 1 + 1 + 1 := (by have := hz2; omega)
  have HZ : Hid (min (tr b n) (tr c m) = ((min x y : Nat) : Int)) := by show _ = _; rw [hx, hy]; omega
  have hm2 : min x y ≤ 2 := by omega
  generalize min x y = z at *
  obtain ⟨hv0, hv1⟩ := val_look hTv z hm2
  clear hTv hTa
  generalize hB : vB (z : Int) = B at *
  generalize hI : vI (z : Int) = I at *
  have HB : Hid (vB (z : Int) = B) := hB
  have HI : Hid (vI (z : Int) = I) := hI
  clear hB hI
  have i1 : (0 : Int) ≤ (x : Int) := by omega
  have i2 : (x : Int) < 3 := by omega
  have i3 : (0 : Int) ≤ (y : Int) := by omega
  have i4 : (y : Int) < 3 := by omega
  have i5 : (0 : Int) ≤ (z : Int) := by omega
  have i6 : (z : Int) < 3 := by omega
  go_enter Tryd.func8, Tryd.ntmps8
  go_upto_region 1 with fail
  have h1 := Below.refl ((((w.alloc (.cells #[.bool b, .int .i64 n] 24)).alloc (.cells #[.bool c, .int .i64 m] 24))).alloc (.cells #[.bool false, .int .i64 0] 24)).heap.size ((((w.alloc (.cells #[.bool b, .int .i64 n] 24)).alloc (.cells #[.bool c, .int .i64 m] 24))).alloc (.cells #[.bool false, .int .i64 0] 24))
  have h2 := h1
  go_region_held3 (Std ((w.alloc (.cells #[.bool b, .int .i64 n] 24)).alloc (.cells #[.bool c, .int .i64 m] 24))) (repeat (first | with_reducible assumption | with_reducible exact Std.refl _ | with_reducible refine Std.drew ?_ | with_reducible refine Std.alloc ?_ _ | with_reducible refine Std.setCell ?_ ?_ _ | with_reducible refine Std.call ?_ (by with_reducible assumption) | (simp <;> omega) | omega)) (first | (go_at_call 23; refine (truthOf_calls _ _ _).mono ?_; rintro e w1 ⟨rfl, hb⟩; (first | have n3 := bT h2 hb | have n3 := bT (bA h2 _) hb | have n3 := bT (Below.drew h2) hb | have n3 := bT (Below.drew (bA h2 _)) hb | have n3 := bT (bA (Below.drew h2) _) hb); (first | have n2 := bT h1 hb | have n2 := bT (bA h1 _) hb | have n2 := bT (Below.drew h1) hb | have n2 := bT (Below.drew (bA h1 _)) hb | have n2 := bT (bA (Below.drew h1) _) hb); obtain ⟨c1, f1⟩ := bcell hb; obtain ⟨c2, f2⟩ := bcell n2; obtain ⟨c3, f3⟩ := bcell n3; have hs := hb.size; (try simp at hs); clear h1 h2; have h1 := hb; have h2 := n2; clear n2 hb))
  all_goals
    have dd := bT (Below.drew (bA (bA (bA (Below.refl w.heap.size w) _) _) _)) h2
    go_wp2
    refine bodyPost_ret (v := .agg #[.bool B, .int .i64 I]) ?_ rfl ⟨by rw [HZ.out, HB.out, HI.out], ?_⟩
    · simp [results, Tryd.results8, go_sem, *]
    · exact (Below.setCell (Below.setCell dd (by show w.heap.size ≤ w.heap.size + 1 + 1; omega) _) (by show w.heap.size ≤ w.heap.size + 1 + 1; omega) _)
end Go.Proofs.YtafmlbojmmdcdaaDoor
