import Derived.Test.YtafmlbojmmdcdaaDoorL1At
import Derived.Test.YtafmlbojmmdcdaaDoorCmp3
namespace Go.Proofs.YtafmlbojmmdcdaaDoor
open Go Go.RowKit

set_option maxHeartbeats 2000000 in
theorem l1At_4 (len : Nat) (row : List V2) (g off cap gr offr capr i : Nat) (N : Int) (w : World) (hg : g < w.heap.size) (hi : i < len) (hl : len ≤ 1048576) (x0 : w.cell? ⟨g, off + i * 2, none⟩ = some (.int .i64 4)) (x1 : w.cell? ⟨g, off + i * 2 + 1, none⟩ = some (.int .i64 N)) (p : Int) (hp1 : 1 ≤ p) (hp2 : p ≤ i) (va vb : V2) (REC : Hid (∀ w1 : World, Below w.heap.size w w1 → Calls Tryd.prog 32 #[.slice (some ⟨g, off, none⟩) len cap, .slice (some ⟨gr, offr, none⟩) row.length capr, .int .i64 ((i : Int) - 1)] w1 fun e w' => e = .returned (.agg #[.bool vb.1, .int .i64 vb.2]) ∧ Below w1.heap.size w1 w')) (START : Hid (∀ w1 : World, Below w.heap.size w w1 → Calls Tryd.prog 41 #[.slice (some ⟨g, off, none⟩) len cap, .int .i64 ((i : Int) - 1), .int .i64 (row.length : Int)] w1 fun e w' => e = .returned (.int .i64 p) ∧ Below w1.heap.size w1 w')) (REC2 : Hid (∀ w1 : World, Below w.heap.size w w1 → Calls Tryd.prog 32 #[.slice (some ⟨g, off, none⟩) len cap, .slice (some ⟨gr, offr, none⟩) row.length capr, .int .i64 (p - 1)] w1 fun e w' => e = .returned (.agg #[.bool va.1, .int .i64 va.2]) ∧ Below w1.heap.size w1 w')) :
    Calls Tryd.prog 32 #[.slice (some ⟨g, off, none⟩) len cap, .slice (some ⟨gr, offr, none⟩) row.length capr, .int .i64 (i : Int)] w fun e w' => e = .returned (.agg #[.bool (vv (cmp3 N va.1 vb.1 va.2 vb.2)).1, .int .i64 (vv (cmp3 N va.1 vb.1 va.2 vb.2)).2]) ∧ Below w.heap.size w w' := by
  have i1 : (i : Int) < (len : Int) := by omega
  have p0 : w.heap.size < w.heap.size + 1 + 1 := by omega
  have p1 : g < w.heap.size + 1 := by omega
  obtain ⟨a1, a2⟩ := va
  obtain ⟨b1, b2⟩ := vb
  go_enter Tryd.func32, Tryd.ntmps32
  go_wp2_with fail
  have f0 := bA (bA (Below.refl w.heap.size w) (.cells #[.bool false, .int .i64 0] 24)) (.cells #[.int .i64 4, .int .i64 N] 39)
  refine (unhide REC _ f0).mono ?_; rintro e w1 ⟨rfl, hb1⟩
  have f1 := bT f0 hb1
  obtain ⟨hc1, hf1⟩ := bcell hb1
  have s1 : w.heap.size + 1 < w1.heap.size := by have := hb1.size; simp at this; omega
  have s0 : w.heap.size < w1.heap.size := by omega
  have s2 : w.heap.size < w1.heap.size + 1 := by omega
  have s3 : w.heap.size + 1 < w1.heap.size + 1 := by omega
  go_wp2_with fail
  have f1b := bA f1 (.cells #[.bool b1, .int .i64 b2] 24)
  have e1b := bA hb1 (.cells #[.bool b1, .int .i64 b2] 24)
  refine (unhide START _ f1b).mono ?_; rintro e w2 ⟨rfl, hb2⟩
  have f2 := bT f1b hb2
  have e2 := bT e1b hb2
  go_wp2_with fail
  refine (unhide REC2 _ f2).mono ?_; rintro e w3 ⟨rfl, hb3⟩
  have f3 := bT f2 hb3
  have e3 := bT e2 hb3
  have g3 := bT hb2 hb3
  clear hc1 hf1
  obtain ⟨hc3, hf3⟩ := bcell e3
  obtain ⟨hk3, hl3⟩ := bcell g3
  have u1 : w1.heap.size < w3.heap.size := by have := g3.size; simp at this; omega
  have u2 : w.heap.size < w3.heap.size := by omega
  have u3 : w.heap.size + 1 < w3.heap.size := by omega
  have u4 : w.heap.size < w3.heap.size + 1 := by omega
  go_wp2_with fail
  refine (sCmp3_calls _ _ _ _ _ _).mono ?_; rintro e w4 ⟨rfl, hb4⟩
  have f4 := bT (bA f3 _) hb4
  have e4 := bT (bA e3 _) hb4
  clear hc3 hf3 hk3 hl3
  obtain ⟨hc4, hf4⟩ := bcell e4
  have v1 : w.heap.size < w4.heap.size := by have := hb4.size; simp at this; omega
  go_wp2
  refine bodyPost_ret (v := .agg #[.bool (vv (cmp3 N a1 b1 a2 b2)).1, .int .i64 (vv (cmp3 N a1 b1 a2 b2)).2]) ?_ rfl ⟨rfl, ?_⟩
  · simp [results, Tryd.results32, go_sem, hc4, p0, vv]
  · exact (f4.setCell (by simp) _).setCell (by simp) _

set_option maxHeartbeats 2000000 in
theorem l1At_5 (len : Nat) (row : List V2) (g off cap gr offr capr i : Nat) (N : Int) (w : World) (hg : g < w.heap.size) (hi : i < len) (hl : len ≤ 1048576) (x0 : w.cell? ⟨g, off + i * 2, none⟩ = some (.int .i64 5)) (x1 : w.cell? ⟨g, off + i * 2 + 1, none⟩ = some (.int .i64 N)) (p : Int) (hp1 : 1 ≤ p) (hp2 : p ≤ i) (va vb : V2) (REC : Hid (∀ w1 : World, Below w.heap.size w w1 → Calls Tryd.prog 32 #[.slice (some ⟨g, off, none⟩) len cap, .slice (some ⟨gr, offr, none⟩) row.length capr, .int .i64 ((i : Int) - 1)] w1 fun e w' => e = .returned (.agg #[.bool vb.1, .int .i64 vb.2]) ∧ Below w1.heap.size w1 w')) (START : Hid (∀ w1 : World, Below w.heap.size w w1 → Calls Tryd.prog 41 #[.slice (some ⟨g, off, none⟩) len cap, .int .i64 ((i : Int) - 1), .int .i64 (row.length : Int)] w1 fun e w' => e = .returned (.int .i64 p) ∧ Below w1.heap.size w1 w')) (REC2 : Hid (∀ w1 : World, Below w.heap.size w w1 → Calls Tryd.prog 32 #[.slice (some ⟨g, off, none⟩) len cap, .slice (some ⟨gr, offr, none⟩) row.length capr, .int .i64 (p - 1)] w1 fun e w' => e = .returned (.agg #[.bool va.1, .int .i64 va.2]) ∧ Below w1.heap.size w1 w')) :
    Calls Tryd.prog 32 #[.slice (some ⟨g, off, none⟩) len cap, .slice (some ⟨gr, offr, none⟩) row.length capr, .int .i64 (i : Int)] w fun e w' => e = .returned (.agg #[.bool (vv (min (tr va.1 va.2) (tr vb.1 vb.2))).1, .int .i64 (vv (min (tr va.1 va.2) (tr vb.1 vb.2))).2]) ∧ Below w.heap.size w w' := by
  have i1 : (i : Int) < (len : Int) := by omega
  have p0 : w.heap.size < w.heap.size + 1 + 1 := by omega
  have p1 : g < w.heap.size + 1 := by omega
  obtain ⟨a1, a2⟩ := va
  obtain ⟨b1, b2⟩ := vb
  go_enter Tryd.func32, Tryd.ntmps32
  go_wp2_with fail
  have f0 := bA (bA (Below.refl w.heap.size w) (.cells #[.bool false, .int .i64 0] 24)) (.cells #[.int .i64 5, .int .i64 N] 39)
  refine (unhide REC _ f0).mono ?_; rintro e w1 ⟨rfl, hb1⟩
  have f1 := bT f0 hb1
  obtain ⟨hc1, hf1⟩ := bcell hb1
  have s1 : w.heap.size + 1 < w1.heap.size := by have := hb1.size; simp at this; omega
  have s0 : w.heap.size < w1.heap.size := by omega
  have s2 : w.heap.size < w1.heap.size + 1 := by omega
  have s3 : w.heap.size + 1 < w1.heap.size + 1 := by omega
  go_wp2_with fail
  have f1b := bA f1 (.cells #[.bool b1, .int .i64 b2] 24)
  have e1b := bA hb1 (.cells #[.bool b1, .int .i64 b2] 24)
  refine (unhide START _ f1b).mono ?_; rintro e w2 ⟨rfl, hb2⟩
  have f2 := bT f1b hb2
  have e2 := bT e1b hb2
  go_wp2_with fail
  refine (unhide REC2 _ f2).mono ?_; rintro e w3 ⟨rfl, hb3⟩
  have f3 := bT f2 hb3
  have e3 := bT e2 hb3
  have g3 := bT hb2 hb3
  clear hc1 hf1
  obtain ⟨hc3, hf3⟩ := bcell e3
  obtain ⟨hk3, hl3⟩ := bcell g3
  have u1 : w1.heap.size < w3.heap.size := by have := g3.size; simp at this; omega
  have u2 : w.heap.size < w3.heap.size := by omega
  have u3 : w.heap.size + 1 < w3.heap.size := by omega
  have u4 : w.heap.size < w3.heap.size + 1 := by omega
  go_wp2_with fail
  refine (sAnd3_calls _ _ _ _ _).mono ?_; rintro e w4 ⟨rfl, hb4⟩
  have f4 := bT (bA f3 _) hb4
  have e4 := bT (bA e3 _) hb4
  clear hc3 hf3 hk3 hl3
  obtain ⟨hc4, hf4⟩ := bcell e4
  have v1 : w.heap.size < w4.heap.size := by have := hb4.size; simp at this; omega
  go_wp2
  refine bodyPost_ret (v := .agg #[.bool (vv (min (tr a1 a2) (tr b1 b2))).1, .int .i64 (vv (min (tr a1 a2) (tr b1 b2))).2]) ?_ rfl ⟨rfl, ?_⟩
  · simp [results, Tryd.results32, go_sem, hc4, p0, vv]
  · exact (f4.setCell (by simp) _).setCell (by simp) _

set_option maxHeartbeats 2000000 in
theorem l1At_6 (len : Nat) (row : List V2) (g off cap gr offr capr i : Nat) (N : Int) (w : World) (hg : g < w.heap.size) (hi : i < len) (hl : len ≤ 1048576) (x0 : w.cell? ⟨g, off + i * 2, none⟩ = some (.int .i64 6)) (x1 : w.cell? ⟨g, off + i * 2 + 1, none⟩ = some (.int .i64 N)) (p : Int) (hp1 : 1 ≤ p) (hp2 : p ≤ i) (va vb : V2) (REC : Hid (∀ w1 : World, Below w.heap.size w w1 → Calls Tryd.prog 32 #[.slice (some ⟨g, off, none⟩) len cap, .slice (some ⟨gr, offr, none⟩) row.length capr, .int .i64 ((i : Int) - 1)] w1 fun e w' => e = .returned (.agg #[.bool vb.1, .int .i64 vb.2]) ∧ Below w1.heap.size w1 w')) (START : Hid (∀ w1 : World, Below w.heap.size w w1 → Calls Tryd.prog 41 #[.slice (some ⟨g, off, none⟩) len cap, .int .i64 ((i : Int) - 1), .int .i64 (row.length : Int)] w1 fun e w' => e = .returned (.int .i64 p) ∧ Below w1.heap.size w1 w')) (REC2 : Hid (∀ w1 : World, Below w.heap.size w w1 → Calls Tryd.prog 32 #[.slice (some ⟨g, off, none⟩) len cap, .slice (some ⟨gr, offr, none⟩) row.length capr, .int .i64 (p - 1)] w1 fun e w' => e = .returned (.agg #[.bool va.1, .int .i64 va.2]) ∧ Below w1.heap.size w1 w')) :
    Calls Tryd.prog 32 #[.slice (some ⟨g, off, none⟩) len cap, .slice (some ⟨gr, offr, none⟩) row.length capr, .int .i64 (i : Int)] w fun e w' => e = .returned (.agg #[.bool (vv (max (tr va.1 va.2) (tr vb.1 vb.2))).1, .int .i64 (vv (max (tr va.1 va.2) (tr vb.1 vb.2))).2]) ∧ Below w.heap.size w w' := by
  have i1 : (i : Int) < (len : Int) := by omega
  have p0 : w.heap.size < w.heap.size + 1 + 1 := by omega
  have p1 : g < w.heap.size + 1 := by omega
  obtain ⟨a1, a2⟩ := va
  obtain ⟨b1, b2⟩ := vb
  go_enter Tryd.func32, Tryd.ntmps32
  go_wp2_with fail
  have f0 := bA (bA (Below.refl w.heap.size w) (.cells #[.bool false, .int .i64 0] 24)) (.cells #[.int .i64 6, .int .i64 N] 39)
  refine (unhide REC _ f0).mono ?_; rintro e w1 ⟨rfl, hb1⟩
  have f1 := bT f0 hb1
  obtain ⟨hc1, hf1⟩ := bcell hb1
  have s1 : w.heap.size + 1 < w1.heap.size := by have := hb1.size; simp at this; omega
  have s0 : w.heap.size < w1.heap.size := by omega
  have s2 : w.heap.size < w1.heap.size + 1 := by omega
  have s3 : w.heap.size + 1 < w1.heap.size + 1 := by omega
  go_wp2_with fail
  have f1b := bA f1 (.cells #[.bool b1, .int .i64 b2] 24)
  have e1b := bA hb1 (.cells #[.bool b1, .int .i64 b2] 24)
  refine (unhide START _ f1b).mono ?_; rintro e w2 ⟨rfl, hb2⟩
  have f2 := bT f1b hb2
  have e2 := bT e1b hb2
  go_wp2_with fail
  refine (unhide REC2 _ f2).mono ?_; rintro e w3 ⟨rfl, hb3⟩
  have f3 := bT f2 hb3
  have e3 := bT e2 hb3
  have g3 := bT hb2 hb3
  clear hc1 hf1
  obtain ⟨hc3, hf3⟩ := bcell e3
  obtain ⟨hk3, hl3⟩ := bcell g3
  have u1 : w1.heap.size < w3.heap.size := by have := g3.size; simp at this; omega
  have u2 : w.heap.size < w3.heap.size := by omega
  have u3 : w.heap.size + 1 < w3.heap.size := by omega
  have u4 : w.heap.size < w3.heap.size + 1 := by omega
  go_wp2_with fail
  refine (sOr3_calls _ _ _ _ _).mono ?_; rintro e w4 ⟨rfl, hb4⟩
  have f4 := bT (bA f3 _) hb4
  have e4 := bT (bA e3 _) hb4
  clear hc3 hf3 hk3 hl3
  obtain ⟨hc4, hf4⟩ := bcell e4
  have v1 : w.heap.size < w4.heap.size := by have := hb4.size; simp at this; omega
  go_wp2
  refine bodyPost_ret (v := .agg #[.bool (vv (max (tr a1 a2) (tr b1 b2))).1, .int .i64 (vv (max (tr a1 a2) (tr b1 b2))).2]) ?_ rfl ⟨rfl, ?_⟩
  · simp [results, Tryd.results32, go_sem, hc4, p0, vv]
  · exact (f4.setCell (by simp) _).setCell (by simp) _
end Go.Proofs.YtafmlbojmmdcdaaDoor
