import Derived.Test.YtafmlbojmmdcdabDoorVals
import Derived.Deep.RegionWith
namespace Go.Proofs.YtafmlbojmmdcdabDoor
open Go Go.RowKit

abbrev TOr (w : World) : Prop := TabAt w 1 [.int .i64 0, .int .i64 1, .int .i64 2, .int .i64 1, .int .i64 1, .int .i64 2, .int .i64 2, .int .i64 2, .int .i64 2]
theorem or_look {w : World} (h : TOr w) (x y : Nat) (hx : x ≤ 2) (hy : y ≤ 2) : w.cell? ⟨1, x * 3 + y, none⟩ = some (.int .i64 ((max x y : Nat) : Int)) := by
  rw [h.cell]
  have e1 : x = 0 ∨ x = 1 ∨ x = 2 := by omega
  have e2 : y = 0 ∨ y = 1 ∨ y = 2 := by omega
  rcases e1 with rfl | rfl | rfl <;> rcases e2 with rfl | rfl | rfl <;> rfl

set_option maxHeartbeats 1000000 in
theorem Or3_calls (b c : Bool) (n m : Int) (w : World) (hTv : TVal w) (hTa : TOr w) :
    Calls Tryd.prog 9 #[.agg #[.bool b, .int .i64 n], .agg #[.bool c, .int .i64 m]] w fun e w' => e = .returned (.agg #[.bool (vB (max (tr b n) (tr c m))), .int .i64 (vI (max (tr b n) (tr c m)))]) ∧ Below w.heap.size w w' := by
  obtain ⟨x, hx, hx2⟩ := tr_nat b n
  obtain ⟨y, hy, hy2⟩ := tr_nat c m
  have ha := or_look hTa x y hx2 hy2
  have hz1 := hTv.size
  have hz2 := hTa.size
  have HZ : Hid (max (tr b n) (tr c m) = ((max x y : Nat) : Int)) := by show _ = _; rw [hx, hy]; omega
  have hm2 : max x y ≤ 2 := by omega
  generalize max x y = z at *
  obtain ⟨hv0, hv1⟩ := val_look hTv z hm2
  clear hTv hTa
  generalize hB : vB (z : Int) = B at *
  generalize hI : vI (z : Int) = I at *
  have HB := hB; have HI := hI
  have HB : Hid (vB (z : Int) = B) := hB
  have HI : Hid (vI (z : Int) = I) := hI
  clear hB hI
  go_enter Tryd.func9, Tryd.ntmps9
  go_wp2_with fail
  go_region_with (go_at_call 25; refine (truthOf_calls _ _ _).mono ?_; rintro e w1 ⟨rfl, hb⟩; have d : Below w.heap.size w w1 := (by refine bT ?_ hb; repeat (first | assumption | exact Below.refl _ _ | refine bA ?_ _ | refine Below.drew ?_)); obtain ⟨hc, hf⟩ := bcell hb; have hs := hb.size; (try simp at hs); have p0 : 0 < w1.heap.size := (by omega); have p1 : 1 < w1.heap.size := (by omega); have p2 : w.heap.size < w1.heap.size := (by omega); have p3 : w.heap.size + 1 < w1.heap.size := (by omega); have p4 : w.heap.size + 1 + 1 < w1.heap.size := (by omega))
  all_goals
    go_wp2
    refine bodyPost_ret (v := .agg #[.bool B, .int .i64 I]) ?_ rfl ⟨by rw [HZ.out, HB.out, HI.out], ?_⟩
    · simp [results, Tryd.results9, go_sem, *]
    · exact (Below.setCell (Below.setCell (by assumption) (by show w.heap.size ≤ w.heap.size + 1 + 1; omega) _) (by show w.heap.size ≤ w.heap.size + 1 + 1; omega) _)
end Go.Proofs.YtafmlbojmmdcdabDoor
