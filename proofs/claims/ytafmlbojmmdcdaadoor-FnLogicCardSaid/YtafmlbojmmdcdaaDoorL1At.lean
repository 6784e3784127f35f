import Derived.Test.YtafmlbojmmdcdaaDoorRunMath
import Derived.Test.YtafmlbojmmdcdaaDoorSAnd
import Derived.Test.YtafmlbojmmdcdaaDoorSOr
namespace Go.Proofs.YtafmlbojmmdcdaaDoor
open Go Go.RowKit

theorem l1Num_calls (n : Int) (w : World) : Calls Tryd.prog 35 #[.int .i64 n] w fun e w' => e = .returned (.agg #[.bool false, .int .i64 n]) ∧ Below w.heap.size w w' := by
  go_enter Tryd.func35, Tryd.ntmps35
  go_wp2
  refine bodyPost_ret (v := .agg #[.bool false, .int .i64 n]) ?_ rfl ⟨rfl, ?_⟩
  · simp [results, Tryd.results35, go_sem]
  · exact bA (Below.refl _ _) _
theorem l1Clean_calls (b : Bool) (n : Int) (w : World) :
    Calls Tryd.prog 42 #[.agg #[.bool b, .int .i64 n]] w fun e w' => e = .returned (.agg #[.bool (cln (b, n)).1, .int .i64 (cln (b, n)).2]) ∧ Below w.heap.size w w' := by
  cases b
  all_goals
    go_enter Tryd.func42, Tryd.ntmps42
    go_wp2
    refine bodyPost_ret (v := .agg #[.bool _, .int .i64 _]) (by simp [results, Tryd.results42, go_sem]; exact ⟨rfl, rfl⟩) rfl ⟨by simp [cln], ?_⟩
    exact bA (bA (Below.refl _ _) _) _

set_option maxHeartbeats 1000000 in
theorem l1At_1 (len : Nat) (row : List V2) (g off cap gr offr capr i : Nat) (N : Int) (w : World) (hg : g < w.heap.size) (hi : i < len) (_hl : len ≤ 1048576) (x0 : w.cell? ⟨g, off + i * 2, none⟩ = some (.int .i64 1)) (x1 : w.cell? ⟨g, off + i * 2 + 1, none⟩ = some (.int .i64 N)) :
    Calls Tryd.prog 32 #[.slice (some ⟨g, off, none⟩) len cap, .slice (some ⟨gr, offr, none⟩) row.length capr, .int .i64 (i : Int)] w fun e w' => e = .returned (.agg #[.bool (((false, N) : V2)).1, .int .i64 (((false, N) : V2)).2]) ∧ Below w.heap.size w w' := by
  have i1 : (i : Int) < (len : Int) := by omega
  have p0 : w.heap.size < w.heap.size + 1 + 1 := by omega
  have p1 : g < w.heap.size + 1 := by omega
  go_enter Tryd.func32, Tryd.ntmps32
  go_wp2_with fail
  refine (l1Num_calls _ _).mono ?_; rintro e w1 ⟨rfl, hb1⟩
  have d1 := bT (bA (bA (Below.refl w.heap.size w) _) _) hb1
  obtain ⟨hc1, hf1⟩ := bcell hb1
  go_wp2
  refine bodyPost_ret (v := .agg #[.bool (((false, N) : V2)).1, .int .i64 (((false, N) : V2)).2]) ?_ rfl ⟨rfl, ?_⟩
  · simp [results, Tryd.results32, go_sem, hc1, p0]
  · exact (d1.setCell (by simp) _).setCell (by simp) _

set_option maxHeartbeats 1000000 in
theorem l1At_2 (len : Nat) (row : List V2) (g off cap gr offr capr i : Nat) (N : Int) (w : World) (hg : g < w.heap.size) (hi : i < len) (_hl : len ≤ 1048576) (x0 : w.cell? ⟨g, off + i * 2, none⟩ = some (.int .i64 2)) (x1 : w.cell? ⟨g, off + i * 2 + 1, none⟩ = some (.int .i64 N)) :
    Calls Tryd.prog 32 #[.slice (some ⟨g, off, none⟩) len cap, .slice (some ⟨gr, offr, none⟩) row.length capr, .int .i64 (i : Int)] w fun e w' => e = .returned (.agg #[.bool (((true, 0) : V2)).1, .int .i64 (((true, 0) : V2)).2]) ∧ Below w.heap.size w w' := by
  have i1 : (i : Int) < (len : Int) := by omega
  have p0 : w.heap.size < w.heap.size + 1 + 1 := by omega
  have p1 : g < w.heap.size + 1 := by omega
  go_enter Tryd.func32, Tryd.ntmps32
  go_wp2_with fail
  refine (l1Val_calls _ (by omega) _).mono ?_; rintro e w1 ⟨rfl, hb1⟩
  have d1 := bT (bA (bA (Below.refl w.heap.size w) _) _) hb1
  obtain ⟨hc1, hf1⟩ := bcell hb1
  go_wp2
  refine bodyPost_ret (v := .agg #[.bool (((true, 0) : V2)).1, .int .i64 (((true, 0) : V2)).2]) ?_ rfl ⟨rfl, ?_⟩
  · simp [results, Tryd.results32, go_sem, hc1, p0, vB, vI]
  · exact (d1.setCell (by simp) _).setCell (by simp) _

set_option maxHeartbeats 1000000 in
theorem l1At_3 (len : Nat) (row : List V2) (g off cap gr offr capr i : Nat) (N : Int) (w : World) (hg : g < w.heap.size) (hi : i < len) (_hl : len ≤ 1048576) (x0 : w.cell? ⟨g, off + i * 2, none⟩ = some (.int .i64 3)) (x1 : w.cell? ⟨g, off + i * 2 + 1, none⟩ = some (.int .i64 N)) (n : Nat) (hN : N = (n : Int)) (hn : n < row.length) (hgr : gr < w.heap.size) (hr : RowAt w gr offr row) :
    Calls Tryd.prog 32 #[.slice (some ⟨g, off, none⟩) len cap, .slice (some ⟨gr, offr, none⟩) row.length capr, .int .i64 (i : Int)] w fun e w' => e = .returned (.agg #[.bool (cln row[n]).1, .int .i64 (cln row[n]).2]) ∧ Below w.heap.size w w' := by
  have i1 : (i : Int) < (len : Int) := by omega
  have p0 : w.heap.size < w.heap.size + 1 + 1 := by omega
  have p1 : g < w.heap.size + 1 := by omega
  subst hN
  obtain ⟨y0, y1⟩ := hr.at n hn
  have i2 : (n : Int) < (row.length : Int) := by omega
  have p2 : gr < w.heap.size + 1 := by omega
  have p3 : gr < w.heap.size + 1 + 1 := by omega
  have CV := fun w => l1Clean_calls row[n].1 row[n].2 w
  generalize row[n] = x at *
  obtain ⟨x1', x2'⟩ := x
  have HC := hide CV
  clear CV hr
  go_enter Tryd.func32, Tryd.ntmps32
  go_wp2_with fail
  refine (unhide HC _).mono ?_; rintro e w1 ⟨rfl, hb1⟩
  have d1 := bT (bA (bA (Below.refl w.heap.size w) _) _) hb1
  obtain ⟨hc1, hf1⟩ := bcell hb1
  go_wp2
  refine bodyPost_ret (v := .agg #[.bool (cln (x1', x2')).1, .int .i64 (cln (x1', x2')).2]) ?_ rfl ⟨rfl, ?_⟩
  · simp [results, Tryd.results32, go_sem, hc1, p0]
  · exact (d1.setCell (by simp) _).setCell (by simp) _

set_option maxHeartbeats 1000000 in
theorem l1At_7 (len : Nat) (row : List V2) (g off cap gr offr capr i : Nat) (N : Int) (w : World) (hg : g < w.heap.size) (hi : i < len) (_hl : len ≤ 1048576) (x0 : w.cell? ⟨g, off + i * 2, none⟩ = some (.int .i64 7)) (x1 : w.cell? ⟨g, off + i * 2 + 1, none⟩ = some (.int .i64 N)) (vb : V2) (REC : Hid (∀ w1 : World, Below w.heap.size w w1 → Calls Tryd.prog 32 #[.slice (some ⟨g, off, none⟩) len cap, .slice (some ⟨gr, offr, none⟩) row.length capr, .int .i64 ((i : Int) - 1)] w1 fun e w' => e = .returned (.agg #[.bool vb.1, .int .i64 vb.2]) ∧ Below w1.heap.size w1 w')) :
    Calls Tryd.prog 32 #[.slice (some ⟨g, off, none⟩) len cap, .slice (some ⟨gr, offr, none⟩) row.length capr, .int .i64 (i : Int)] w fun e w' => e = .returned (.agg #[.bool (vv (2 - tr vb.1 vb.2)).1, .int .i64 (vv (2 - tr vb.1 vb.2)).2]) ∧ Below w.heap.size w w' := by
  have i1 : (i : Int) < (len : Int) := by omega
  have p0 : w.heap.size < w.heap.size + 1 + 1 := by omega
  have p1 : g < w.heap.size + 1 := by omega
  obtain ⟨b1, b2⟩ := vb
  go_enter Tryd.func32, Tryd.ntmps32
  go_wp2_with fail
  refine (unhide REC _ (bA (bA (Below.refl w.heap.size w) _) _)).mono ?_; rintro e w1 ⟨rfl, hb1⟩
  have d1 := bT (bA (bA (Below.refl w.heap.size w) _) _) hb1
  obtain ⟨hc1, hf1⟩ := bcell hb1
  have s1 : w.heap.size + 1 < w1.heap.size := by have := hb1.size; simp at this; omega
  have s0 : w.heap.size < w1.heap.size := by omega
  have s2 : w.heap.size < w1.heap.size + 1 := by omega
  have s3 : w.heap.size + 1 < w1.heap.size + 1 := by omega
  go_wp2_with fail
  refine (sNot3_calls _ _ _).mono ?_; rintro e w2 ⟨rfl, hb2⟩
  obtain ⟨hc2, hf2⟩ := bcell hb2
  have t0 : w.heap.size < w2.heap.size := Nat.lt_of_lt_of_le s0 (Nat.le_trans (by simp) hb2.size)
  have d2 := bT (bA d1 _) hb2
  go_wp2
  refine bodyPost_ret (v := .agg #[.bool (vv (2 - tr b1 b2)).1, .int .i64 (vv (2 - tr b1 b2)).2]) ?_ rfl ⟨rfl, ?_⟩
  · simp [results, Tryd.results32, go_sem, hc2, hc1, p0, s2, s0, vv]
  · exact (d2.setCell (by simp) _).setCell (by simp) _

set_option maxHeartbeats 1000000 in
theorem l1At_8 (len : Nat) (row : List V2) (g off cap gr offr capr i : Nat) (N : Int) (w : World) (hg : g < w.heap.size) (hi : i < len) (_hl : len ≤ 1048576) (x0 : w.cell? ⟨g, off + i * 2, none⟩ = some (.int .i64 8)) (x1 : w.cell? ⟨g, off + i * 2 + 1, none⟩ = some (.int .i64 N)) (vb : V2) (REC : Hid (∀ w1 : World, Below w.heap.size w w1 → Calls Tryd.prog 32 #[.slice (some ⟨g, off, none⟩) len cap, .slice (some ⟨gr, offr, none⟩) row.length capr, .int .i64 ((i : Int) - 1)] w1 fun e w' => e = .returned (.agg #[.bool vb.1, .int .i64 vb.2]) ∧ Below w1.heap.size w1 w')) :
    Calls Tryd.prog 32 #[.slice (some ⟨g, off, none⟩) len cap, .slice (some ⟨gr, offr, none⟩) row.length capr, .int .i64 (i : Int)] w fun e w' => e = .returned (.agg #[.bool (vv (if vb.1 = true then 2 else 0)).1, .int .i64 (vv (if vb.1 = true then 2 else 0)).2]) ∧ Below w.heap.size w w' := by
  have i1 : (i : Int) < (len : Int) := by omega
  have p0 : w.heap.size < w.heap.size + 1 + 1 := by omega
  have p1 : g < w.heap.size + 1 := by omega
  obtain ⟨b1, b2⟩ := vb
  go_enter Tryd.func32, Tryd.ntmps32
  go_wp2_with fail
  refine (unhide REC _ (bA (bA (Below.refl w.heap.size w) _) _)).mono ?_; rintro e w1 ⟨rfl, hb1⟩
  have d1 := bT (bA (bA (Below.refl w.heap.size w) _) _) hb1
  obtain ⟨hc1, hf1⟩ := bcell hb1
  have s1 : w.heap.size + 1 < w1.heap.size := by have := hb1.size; simp at this; omega
  have s0 : w.heap.size < w1.heap.size := by omega
  have s2 : w.heap.size < w1.heap.size + 1 := by omega
  have s3 : w.heap.size + 1 < w1.heap.size + 1 := by omega
  cases b1
  · go_wp2_with fail
    refine (l1Val_calls _ (by omega) _).mono ?_; rintro e w2 ⟨rfl, hb2⟩
    obtain ⟨hc2, hf2⟩ := bcell hb2
    have t0 : w.heap.size < w2.heap.size := Nat.lt_of_lt_of_le s0 (Nat.le_trans (by simp) hb2.size)
    have d2 := bT (bA d1 _) hb2
    go_wp2
    refine bodyPost_ret (v := .agg #[.bool (vv 0).1, .int .i64 (vv 0).2]) ?_ rfl ⟨rfl, ?_⟩
    · simp [results, Tryd.results32, go_sem, hc2, hc1, p0, s2, s0, vv]
    · exact (d2.setCell (by simp) _).setCell (by simp) _
  · go_wp2_with fail
    refine (l1Val_calls _ (by omega) _).mono ?_; rintro e w2 ⟨rfl, hb2⟩
    obtain ⟨hc2, hf2⟩ := bcell hb2
    have t0 : w.heap.size < w2.heap.size := Nat.lt_of_lt_of_le s0 (Nat.le_trans (by simp) hb2.size)
    have d2 := bT (bA d1 _) hb2
    go_wp2
    refine bodyPost_ret (v := .agg #[.bool (vv 2).1, .int .i64 (vv 2).2]) ?_ rfl ⟨rfl, ?_⟩
    · simp [results, Tryd.results32, go_sem, hc2, hc1, p0, s2, s0, vv]
    · exact (d2.setCell (by simp) _).setCell (by simp) _
end Go.Proofs.YtafmlbojmmdcdaaDoor
