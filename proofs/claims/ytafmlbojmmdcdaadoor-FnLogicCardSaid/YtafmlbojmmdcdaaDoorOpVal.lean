import Derived.Test.YtafmlbojmmdcdaaDoorLogic
import Derived.Test.YtafmlbojmmdcdaaDoorAnd
import Derived.Test.YtafmlbojmmdcdaaDoorOr
import Derived.Test.YtafmlbojmmdcdaaDoorCmp3
import Derived.Test.YtafmlbojmmdcdaaDoorRowKitV
import Derived.Test.YtafmlbojmmdcdaaDoorTakes
namespace Go.Proofs.YtafmlbojmmdcdaaDoor
open Go Go.RowKit
def vv (t : Int) : V2 := (vB t, vI t)
def cln (x : V2) : V2 := if x.1 = true then (true, 0) else x
/-- what an Op pushes -/
def opv (k n : Int) (a b : V2) (row : List V2) : V2 :=
  if k = 1 then (false, n) else if k = 3 then cln (row.getD n.toNat (true, 0)) else if k = 4 then vv (cmp3 n a.1 b.1 a.2 b.2) else if k = 5 then vv (min (tr a.1 a.2) (tr b.1 b.2))
  else if k = 6 then vv (max (tr a.1 a.2) (tr b.1 b.2)) else if k = 7 then vv (2 - tr a.1 a.2) else if k = 8 then vv (if a.1 = true then 2 else 0) else (true, 0)

theorem cleanVal_calls (b : Bool) (n : Int) (w : World) :
    Calls Tryd.prog 47 #[.agg #[.bool b, .int .i64 n]] w fun e w' => e = .returned (.agg #[.bool (cln (b, n)).1, .int .i64 (cln (b, n)).2]) ∧ Below w.heap.size w w' := by
  cases b
  all_goals
    go_enter Tryd.func47, Tryd.ntmps47
    go_wp2
    refine bodyPost_ret (v := .agg #[.bool _, .int .i64 _]) (by simp [results, Tryd.results47, go_sem]; exact ⟨rfl, rfl⟩) rfl ⟨by simp [cln], ?_⟩
    exact bA (bA (Below.refl _ _) _) _

theorem isTruth_calls (b : Bool) (w : World) : Calls Tryd.prog 48 #[.bool b] w fun e w' => e = .returned (.int .i64 (if b = true then 2 else 0)) ∧ w' = w := by
  cases b
  all_goals
    go_enter Tryd.func48, Tryd.ntmps48
    go_wp2
    go_ret
    exact ⟨rfl, rfl⟩

set_option maxHeartbeats 1000000 in
theorem opVal_4 (n : Int) (a b : V2) (row : List V2) (g off cap : Nat) (w : World) (hTv : TVal w) (hTc : TCmp w) :
    Calls Tryd.prog 44 #[.agg #[.int .i64 4, .int .i64 n], .agg #[.bool a.1, .int .i64 a.2], .agg #[.bool b.1, .int .i64 b.2], .slice (some ⟨g, off, none⟩) row.length cap] w fun e w' => e = .returned (.agg #[.bool (vv (cmp3 n a.1 b.1 a.2 b.2)).1, .int .i64 (vv (cmp3 n a.1 b.1 a.2 b.2)).2]) ∧ Below w.heap.size w w' := by
  obtain ⟨a1, a2⟩ := a
  obtain ⟨b1, b2⟩ := b
  go_enter Tryd.func44, Tryd.ntmps44
  go_wp2_with fail
  refine (Cmp3_calls _ _ _ _ _ _ (by exact (((((hTv).alloc _).alloc _).alloc _).alloc _)) (by exact (((((hTc).alloc _).alloc _).alloc _).alloc _))).mono ?_; rintro e w1 ⟨rfl, hb1⟩
  have d0 : Below w.heap.size w ((((w.alloc (.cells #[.int .i64 4, .int .i64 n] 39)).alloc (.cells #[.bool a1, .int .i64 a2] 24)).alloc (.cells #[.bool b1, .int .i64 b2] 24)).alloc (.cells #[.bool false, .int .i64 0] 24)) := bA (bA (bA (bA (Below.refl w.heap.size w) _) _) _) _
  have d1 := bT d0 hb1
  obtain ⟨hc1, hf1⟩ := bcell hb1
  go_wp2
  refine bodyPost_ret (v := .agg #[.bool (vv (cmp3 n a1 b1 a2 b2)).1, .int .i64 (vv (cmp3 n a1 b1 a2 b2)).2]) ?_ rfl ⟨rfl, ?_⟩
  · simp [results, Tryd.results44, go_sem, hc1, vv]
  · exact (d1.setCell (by simp; omega) _).setCell (by simp; omega) _

set_option maxHeartbeats 1000000 in
theorem opVal_5 (n : Int) (a b : V2) (row : List V2) (g off cap : Nat) (w : World) (hTv : TVal w) (hTa : TAnd w) :
    Calls Tryd.prog 44 #[.agg #[.int .i64 5, .int .i64 n], .agg #[.bool a.1, .int .i64 a.2], .agg #[.bool b.1, .int .i64 b.2], .slice (some ⟨g, off, none⟩) row.length cap] w fun e w' => e = .returned (.agg #[.bool (vv (min (tr a.1 a.2) (tr b.1 b.2))).1, .int .i64 (vv (min (tr a.1 a.2) (tr b.1 b.2))).2]) ∧ Below w.heap.size w w' := by
  obtain ⟨a1, a2⟩ := a
  obtain ⟨b1, b2⟩ := b
  go_enter Tryd.func44, Tryd.ntmps44
  go_wp2_with fail
  refine (And3_calls _ _ _ _ _ (by exact (((((hTv).alloc _).alloc _).alloc _).alloc _)) (by exact (((((hTa).alloc _).alloc _).alloc _).alloc _))).mono ?_; rintro e w1 ⟨rfl, hb1⟩
  have d0 : Below w.heap.size w ((((w.alloc (.cells #[.int .i64 5, .int .i64 n] 39)).alloc (.cells #[.bool a1, .int .i64 a2] 24)).alloc (.cells #[.bool b1, .int .i64 b2] 24)).alloc (.cells #[.bool false, .int .i64 0] 24)) := bA (bA (bA (bA (Below.refl w.heap.size w) _) _) _) _
  have d1 := bT d0 hb1
  obtain ⟨hc1, hf1⟩ := bcell hb1
  go_wp2
  refine bodyPost_ret (v := .agg #[.bool (vv (min (tr a1 a2) (tr b1 b2))).1, .int .i64 (vv (min (tr a1 a2) (tr b1 b2))).2]) ?_ rfl ⟨rfl, ?_⟩
  · simp [results, Tryd.results44, go_sem, hc1, vv]
  · exact (d1.setCell (by simp; omega) _).setCell (by simp; omega) _

set_option maxHeartbeats 1000000 in
theorem opVal_6 (n : Int) (a b : V2) (row : List V2) (g off cap : Nat) (w : World) (hTv : TVal w) (hTo : TOr w) :
    Calls Tryd.prog 44 #[.agg #[.int .i64 6, .int .i64 n], .agg #[.bool a.1, .int .i64 a.2], .agg #[.bool b.1, .int .i64 b.2], .slice (some ⟨g, off, none⟩) row.length cap] w fun e w' => e = .returned (.agg #[.bool (vv (max (tr a.1 a.2) (tr b.1 b.2))).1, .int .i64 (vv (max (tr a.1 a.2) (tr b.1 b.2))).2]) ∧ Below w.heap.size w w' := by
  obtain ⟨a1, a2⟩ := a
  obtain ⟨b1, b2⟩ := b
  go_enter Tryd.func44, Tryd.ntmps44
  go_wp2_with fail
  refine (Or3_calls _ _ _ _ _ (by exact (((((hTv).alloc _).alloc _).alloc _).alloc _)) (by exact (((((hTo).alloc _).alloc _).alloc _).alloc _))).mono ?_; rintro e w1 ⟨rfl, hb1⟩
  have d0 : Below w.heap.size w ((((w.alloc (.cells #[.int .i64 6, .int .i64 n] 39)).alloc (.cells #[.bool a1, .int .i64 a2] 24)).alloc (.cells #[.bool b1, .int .i64 b2] 24)).alloc (.cells #[.bool false, .int .i64 0] 24)) := bA (bA (bA (bA (Below.refl w.heap.size w) _) _) _) _
  have d1 := bT d0 hb1
  obtain ⟨hc1, hf1⟩ := bcell hb1
  go_wp2
  refine bodyPost_ret (v := .agg #[.bool (vv (max (tr a1 a2) (tr b1 b2))).1, .int .i64 (vv (max (tr a1 a2) (tr b1 b2))).2]) ?_ rfl ⟨rfl, ?_⟩
  · simp [results, Tryd.results44, go_sem, hc1, vv]
  · exact (d1.setCell (by simp; omega) _).setCell (by simp; omega) _

set_option maxHeartbeats 1000000 in
theorem opVal_7 (n : Int) (a b : V2) (row : List V2) (g off cap : Nat) (w : World) (hTv : TVal w) (hTn : TNot w) :
    Calls Tryd.prog 44 #[.agg #[.int .i64 7, .int .i64 n], .agg #[.bool a.1, .int .i64 a.2], .agg #[.bool b.1, .int .i64 b.2], .slice (some ⟨g, off, none⟩) row.length cap] w fun e w' => e = .returned (.agg #[.bool (vv (2 - tr a.1 a.2)).1, .int .i64 (vv (2 - tr a.1 a.2)).2]) ∧ Below w.heap.size w w' := by
  obtain ⟨a1, a2⟩ := a
  obtain ⟨b1, b2⟩ := b
  go_enter Tryd.func44, Tryd.ntmps44
  go_wp2_with fail
  refine (Not3_calls _ _ _ (by exact (((((hTv).alloc _).alloc _).alloc _).alloc _)) (by exact (((((hTn).alloc _).alloc _).alloc _).alloc _))).mono ?_; rintro e w1 ⟨rfl, hb1⟩
  have d0 : Below w.heap.size w ((((w.alloc (.cells #[.int .i64 7, .int .i64 n] 39)).alloc (.cells #[.bool a1, .int .i64 a2] 24)).alloc (.cells #[.bool b1, .int .i64 b2] 24)).alloc (.cells #[.bool false, .int .i64 0] 24)) := bA (bA (bA (bA (Below.refl w.heap.size w) _) _) _) _
  have d1 := bT d0 hb1
  obtain ⟨hc1, hf1⟩ := bcell hb1
  go_wp2
  refine bodyPost_ret (v := .agg #[.bool (vv (2 - tr a1 a2)).1, .int .i64 (vv (2 - tr a1 a2)).2]) ?_ rfl ⟨rfl, ?_⟩
  · simp [results, Tryd.results44, go_sem, hc1, vv]
  · exact (d1.setCell (by simp; omega) _).setCell (by simp; omega) _
end Go.Proofs.YtafmlbojmmdcdaaDoor
