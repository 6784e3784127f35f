import Derived.Test.YtafmlbojmmdcdaaDoorCmp
namespace Go.Proofs.YtafmlbojmmdcdaaDoor
open Go Go.RowKit
abbrev TCmp (w : World) : Prop := TabAt w 4 [.int .i64 0, .int .i64 0, .int .i64 0, .int .i64 0, .int .i64 2, .int .i64 0, .int .i64 2, .int .i64 0, .int .i64 2, .int .i64 2, .int .i64 0, .int .i64 0, .int .i64 2, .int .i64 2, .int .i64 0, .int .i64 0, .int .i64 0, .int .i64 2, .int .i64 0, .int .i64 2, .int .i64 2]
theorem cmp_look {w : World} (h : TCmp w) (x : Nat) (hx1 : 1 ≤ x) (hx : x ≤ 6) : w.cell? ⟨4, x * 3, none⟩ = some (.int .i64 ((if (x : Int) = 2 ∨ (x : Int) = 3 ∨ (x : Int) = 4 then 2 else 0 : Nat) : Int)) ∧
    w.cell? ⟨4, x * 3 + 1, none⟩ = some (.int .i64 ((if (x : Int) = 1 ∨ (x : Int) = 4 ∨ (x : Int) = 6 then 2 else 0 : Nat) : Int)) ∧ w.cell? ⟨4, x * 3 + 2, none⟩ = some (.int .i64 ((if (x : Int) = 2 ∨ (x : Int) = 5 ∨ (x : Int) = 6 then 2 else 0 : Nat) : Int)) := by
  rw [h.cell, h.cell, h.cell]
  have e1 : x = 1 ∨ x = 2 ∨ x = 3 ∨ x = 4 ∨ x = 5 ∨ x = 6 := by omega
  rcases e1 with rfl | rfl | rfl | rfl | rfl | rfl <;> exact ⟨rfl, rfl, rfl⟩

/-- the answer is unknown -/
theorem cmp3_bad {op : Int} {b c : Bool} {n m : Int} (h : b = true ∨ c = true ∨ op < 1 ∨ 6 < op) : cmp3 op b c n m = 1 := by simp [cmp3, h]

set_option maxHeartbeats 1000000 in
theorem Cmp3_bad (op : Int) (b c : Bool) (n m : Int) (w : World) (hTv : TVal w) (h : b = true ∨ c = true ∨ op < 1 ∨ 6 < op) :
    Calls Tryd.prog 13 #[.int .i64 op, .agg #[.bool b, .int .i64 n], .agg #[.bool c, .int .i64 m]] w fun e w' => e = .returned (.agg #[.bool (vB (cmp3 op b c n m)), .int .i64 (vI (cmp3 op b c n m))]) ∧ Below w.heap.size w w' := by
  rw [cmp3_bad h]
  obtain ⟨hz, hv⟩ := hTv
  have e : (b = true) ∨ (b = false ∧ c = true) ∨ (b = false ∧ c = false ∧ op < 1) ∨ (b = false ∧ c = false ∧ ¬ op < 1 ∧ 6 < op) := by
    cases b <;> cases c <;> simp at h ⊢ <;> omega
  clear h
  rcases e with rfl | ⟨rfl, rfl⟩ | ⟨rfl, rfl, h⟩ | ⟨rfl, rfl, h', h⟩
  all_goals
    go_enter Tryd.func13, Tryd.ntmps13
    go_wp2
    refine bodyPost_ret (v := .agg #[.bool true, .int .i64 0]) ?_ rfl ⟨by simp [vB, vI], ?_⟩
    · simp [results, Tryd.results13, go_sem]
    · exact bA (bA (bA (Below.refl _ _) _) _) _

set_option maxHeartbeats 1000000 in
theorem sCmp3_bad (op : Int) (b c : Bool) (n m : Int) (w : World) (h : b = true ∨ c = true ∨ op < 1 ∨ 6 < op) :
    Calls Tryd.prog 14 #[.int .i64 op, .agg #[.bool b, .int .i64 n], .agg #[.bool c, .int .i64 m]] w fun e w' => e = .returned (.agg #[.bool (vB (cmp3 op b c n m)), .int .i64 (vI (cmp3 op b c n m))]) ∧ Below w.heap.size w w' := by
  rw [cmp3_bad h]
  have e : (b = true) ∨ (b = false ∧ c = true) ∨ (b = false ∧ c = false ∧ op < 1) ∨ (b = false ∧ c = false ∧ ¬ op < 1 ∧ 6 < op) := by
    cases b <;> cases c <;> simp at h ⊢ <;> omega
  clear h
  rcases e with rfl | ⟨rfl, rfl⟩ | ⟨rfl, rfl, h⟩ | ⟨rfl, rfl, h', h⟩
  all_goals
    go_enter Tryd.func14, Tryd.ntmps14
    go_wp2_with fail
    refine (l1Val_calls _ (by omega) _).mono ?_; rintro e w1 ⟨rfl, hb1⟩
    have d1 := bT (bA (bA (bA (Below.refl w.heap.size w) _) _) _) hb1
    obtain ⟨hc1, hf1⟩ := bcell hb1; have hs1 := hb1.size; simp at hs1
    go_wp2
    refine bodyPost_ret (v := .agg #[.bool (vB 1), .int .i64 (vI 1)]) ?_ rfl ⟨rfl, ?_⟩
    · simp [results, Tryd.results14, go_sem, hc1]
    · exact (d1.setCell (by simp; omega) _).setCell (by simp; omega) _

set_option maxHeartbeats 1000000 in
theorem sCmp3_good (op n m : Int) (w : World) (h1 : 1 ≤ op) (h6 : op ≤ 6) :
    Calls Tryd.prog 14 #[.int .i64 op, .agg #[.bool false, .int .i64 n], .agg #[.bool false, .int .i64 m]] w fun e w' => e = .returned (.agg #[.bool (vB (cmp3 op false false n m)), .int .i64 (vI (cmp3 op false false n m))]) ∧ Below w.heap.size w w' := by
  have g1 : ¬ op < 1 := by omega
  have g2 : ¬ 6 < op := by omega
  cases hh : holds op n m
  · have HZ : Hid (cmp3 op false false n m = 0) := by show _ = _; simp [cmp3, hh, g1, g2]
    go_enter Tryd.func14, Tryd.ntmps14
    go_wp2_with fail
    refine (l1Holds_calls _ _ _ (by omega) _).mono ?_; rintro e w1 ⟨rfl, rfl⟩
    rw [hh]
    go_wp2_with fail
    refine (l1Val_calls _ (by omega) _).mono ?_; rintro e w1 ⟨rfl, hb1⟩
    have d1 := bT (bA (bA (bA (Below.refl w.heap.size w) _) _) _) hb1
    obtain ⟨hc1, hf1⟩ := bcell hb1; have hs1 := hb1.size; simp at hs1
    go_wp2
    refine bodyPost_ret (v := .agg #[.bool (vB 0), .int .i64 (vI 0)]) ?_ rfl ⟨by rw [HZ.out], ?_⟩
    · simp [results, Tryd.results14, go_sem, hc1]
    · exact (d1.setCell (by simp; omega) _).setCell (by simp; omega) _
  · have HZ : Hid (cmp3 op false false n m = 2) := by show _ = _; simp [cmp3, hh, g1, g2]
    go_enter Tryd.func14, Tryd.ntmps14
    go_wp2_with fail
    refine (l1Holds_calls _ _ _ (by omega) _).mono ?_; rintro e w1 ⟨rfl, rfl⟩
    rw [hh]
    go_wp2_with fail
    refine (l1Val_calls _ (by omega) _).mono ?_; rintro e w1 ⟨rfl, hb1⟩
    have d1 := bT (bA (bA (bA (Below.refl w.heap.size w) _) _) _) hb1
    obtain ⟨hc1, hf1⟩ := bcell hb1; have hs1 := hb1.size; simp at hs1
    go_wp2
    refine bodyPost_ret (v := .agg #[.bool (vB 2), .int .i64 (vI 2)]) ?_ rfl ⟨by rw [HZ.out], ?_⟩
    · simp [results, Tryd.results14, go_sem, hc1]
    · exact (d1.setCell (by simp; omega) _).setCell (by simp; omega) _

set_option maxHeartbeats 1000000 in
theorem Cmp3_good (op n m : Int) (w : World) (hTv : TVal w) (hTc : TCmp w) (h1 : 1 ≤ op) (h6 : op ≤ 6) :
    Calls Tryd.prog 13 #[.int .i64 op, .agg #[.bool false, .int .i64 n], .agg #[.bool false, .int .i64 m]] w fun e w' => e = .returned (.agg #[.bool (vB (cmp3 op false false n m)), .int .i64 (vI (cmp3 op false false n m))]) ∧ Below w.heap.size w w' := by
  obtain ⟨x, rfl⟩ := Int.eq_ofNat_of_zero_le (show 0 ≤ op by omega)
  have g1 : ¬ (x : Int) < 1 := by omega
  have g2 : ¬ 6 < (x : Int) := by omega
  obtain ⟨k0, k1, k2⟩ := cmp_look hTc x (by omega) (by omega)
  have hz1 := hTv.size
  have hz2 := hTc.size
  have z0_0 : 0 < w.heap.size := (by have := hz1; omega); have z0_1 : 0 < w.heap.size + 1 := (by have := hz1; omega); have z0_2 : 0 < w.heap.size + 1 + 1 := (by have := hz1; omega); have z0_3 : 0 < w.heap.size + 1 + 1 + 1 := (by have := hz1; omega); have z0_4 : 0 < w.heap.size + 1 + 1 + 1 + 1 := (by have := hz1; omega)
  have z4_0 : 4 < w.heap.size := (by have := hz2; omega); have z4_1 : 4 < w.heap.size + 1 := (by have := hz2; omega); have z4_2 : 4 < w.heap.size + 1 + 1 := (by have := hz2; omega); have z4_3 : 4 < w.heap.size + 1 + 1 + 1 := (by have := hz2; omega); have z4_4 : 4 < w.heap.size + 1 + 1 + 1 + 1 := (by have := hz2; omega)
  -- the truth value z, its cell of the table, how the numbers stand y
  obtain ⟨z, y, hz, HZ, HY, hy, hk⟩ : ∃ z y : Nat, z ≤ 2 ∧ Hid (cmp3 x false false n m = (z : Int)) ∧ Hid (cmpv n m = (y : Int) - 1) ∧ y ≤ 2 ∧ w.cell? ⟨4, x * 3 + y, none⟩ = some (.int .i64 (z : Int)) := by
    by_cases a1 : n < m
    · refine ⟨_, 0, ?_, ?_, ?_, by omega, k0⟩
      · split <;> omega
      · show _ = _; simp [cmp3, holds, a1, g1, g2]; split <;> rfl
      · show _ = _; simp [cmpv, a1]
    · by_cases a2 : m < n
      · refine ⟨_, 2, ?_, ?_, ?_, by omega, k2⟩
        · split <;> omega
        · show _ = _; simp [cmp3, holds, a1, a2, g1, g2]; split <;> rfl
        · show _ = _; simp [cmpv, a1, a2]
      · refine ⟨_, 1, ?_, ?_, ?_, by omega, k1⟩
        · split <;> omega
        · show _ = _; simp [cmp3, holds, a1, a2, g1, g2]; split <;> rfl
        · show _ = _; simp [cmpv, a1, a2]
  clear k0 k1 k2
  obtain ⟨hv0, hv1⟩ := val_look hTv z hz
  clear hTv hTc
  generalize hB : vB (z : Int) = B at *
  generalize hI : vI (z : Int) = I at *
  have HB : Hid (vB (z : Int) = B) := hB
  have HI : Hid (vI (z : Int) = I) := hI
  clear hB hI
  have i1 : (0 : Int) ≤ (x : Int) := by omega
  have i2 : (x : Int) < 7 := by omega
  have hyu : y = (cmpv n m + 1).toNat := by rw [HY.out]; omega
  have i3 : -1 ≤ cmpv n m := by rw [HY.out]; omega
  have i4 : cmpv n m ≤ 1 := by rw [HY.out]; omega
  rw [hyu] at hk
  clear HY hyu hy
  have i5 : (0 : Int) ≤ (z : Int) := by omega
  have i6 : (z : Int) < 3 := by omega
  have hCmp := fun w => Compare_calls n m w
  generalize cmpv n m = u at *
  have i7 : (0 : Int) ≤ u + 1 := by omega
  have i8 : u + 1 < 3 := by omega
  have i9 := wrap_small (u + 1) (by omega) (by omega)
  go_enter Tryd.func13, Tryd.ntmps13
  go_upto_region 3 with fail
  go_region_held3 (Std ((w.alloc (.cells #[.bool false, .int .i64 n] 24)).alloc (.cells #[.bool false, .int .i64 m] 24))) (repeat (first | with_reducible assumption | with_reducible exact Std.refl _ | with_reducible refine Std.drew ?_ | with_reducible refine Std.alloc ?_ _ | with_reducible refine Std.setCell ?_ ?_ _ | with_reducible refine Std.call ?_ (by with_reducible assumption) | (simp <;> omega) | omega)) (first | (go_at_call 26; refine (hCmp _).mono ?_; rintro e w1 ⟨rfl, rfl⟩))
  all_goals
    go_wp2
    refine bodyPost_ret (v := .agg #[.bool B, .int .i64 I]) ?_ rfl ⟨by rw [HZ.out, HB.out, HI.out], ?_⟩
    · simp [results, Tryd.results13, go_sem, *]
    · exact Below.drew (bA (bA (bA (Below.refl _ _) _) _) _)
end Go.Proofs.YtafmlbojmmdcdaaDoor
