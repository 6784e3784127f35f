import Derived.Test.YtahanplikbdccaaDoorGMath
/-
  THE PROGRAM's SMALL FUNCTIONS ON A PLAN's NODE.
-/
namespace Go.Proofs.YtahanplikbdccaaDoor
open Go Go.RowKit

def nOk (u : Bool) (n lo hi : Int) : Bool := if u then decide (lo ≤ n ∧ n ≤ hi) else decide (n = 0)
theorem numberOk_calls (u : Bool) (n lo hi : Int) (w : World) : Calls Tryd.prog 71 #[.bool u, .int .i64 n, .int .i64 lo, .int .i64 hi] w fun e w' => e = .returned (.bool (nOk u n lo hi)) ∧ w' = w := by
  cases u
  · have HE : Hid (nOk false n lo hi = (n == 0)) := by
      show _ = _
      unfold nOk
      rw [Bool.eq_iff_iff]
      simp
    generalize nOk false n lo hi = E at *
    go_enter Tryd.func71, Tryd.ntmps71
    go_wp2
    go_ret
    exact ⟨congrArg (fun z => Ending.returned (.bool z)) HE.out.symm, rfl⟩
  · by_cases h1 : lo ≤ n
    · by_cases h2 : n ≤ hi
      · have HE : Hid (nOk true n lo hi = true) := by
          show _ = _
          unfold nOk
          simp [h1, h2]
        generalize nOk true n lo hi = E at *
        go_enter Tryd.func71, Tryd.ntmps71
        go_wp2
        go_ret
        exact ⟨congrArg (fun z => Ending.returned (.bool z)) HE.out.symm, rfl⟩
      · have HE : Hid (nOk true n lo hi = false) := by
          show _ = _
          unfold nOk
          simp [h1, h2]
        generalize nOk true n lo hi = E at *
        go_enter Tryd.func71, Tryd.ntmps71
        go_wp2
        go_ret
        exact ⟨congrArg (fun z => Ending.returned (.bool z)) HE.out.symm, rfl⟩
    · have HE : Hid (nOk true n lo hi = false) := by
        show _ = _
        unfold nOk
        simp [h1]
      generalize nOk true n lo hi = E at *
      go_enter Tryd.func71, Tryd.ntmps71
      go_wp2
      go_ret
      exact ⟨congrArg (fun z => Ending.returned (.bool z)) HE.out.symm, rfl⟩

/-- the seven words of a kind: table, agg, ex, exs, left, right, perRow -/
def pf (K : Int) : List Bool :=
  if K = 2 then [true, false, false, false, false, false, false] else if K = 3 then [false, false, true, false, true, false, false] else if K = 4 then [false, false, false, true, true, false, false]
  else if K = 5 then [false, false, false, false, true, true, false] else if K = 6 then [false, false, false, false, true, true, true] else if K = 7 then [false, false, true, false, true, true, true]
  else if K = 8 then [false, true, true, false, true, true, true] else if K = 9 then [false, false, false, false, true, false, false] else if K = 10 then [false, false, false, false, true, true, false]
  else [false, false, false, false, false, false, false]
def pfb (K : Int) (i : Nat) : Bool := (pf K).getD i false
abbrev TPlan (w : World) : Prop := TabAt w 0 [.bool false, .bool false, .bool false, .bool false, .bool false, .bool false, .bool false, .bool false, .bool false, .bool false, .bool false, .bool false, .bool false, .bool false, .bool true, .bool false, .bool false, .bool false, .bool false, .bool false, .bool false, .bool false, .bool false, .bool true, .bool false, .bool true, .bool false, .bool false, .bool false, .bool false, .bool false, .bool true, .bool true, .bool false, .bool false, .bool false, .bool false, .bool false, .bool false, .bool true, .bool true, .bool false, .bool false, .bool false, .bool false, .bool false, .bool true, .bool true, .bool true, .bool false, .bool false, .bool true, .bool false, .bool true, .bool true, .bool true, .bool false, .bool true, .bool true, .bool false, .bool true, .bool true, .bool true, .bool false, .bool false, .bool false, .bool false, .bool true, .bool false, .bool false, .bool false, .bool false, .bool false, .bool false, .bool true, .bool true, .bool false]
theorem plan_look {w : World} (h : TPlan w) (K : Int) (h1 : 1 ≤ K) (h2 : K ≤ 10) :
    w.cell? ⟨0, K.toNat * 7, none⟩ = some (.bool (pfb K 0)) ∧ w.cell? ⟨0, K.toNat * 7 + 1, none⟩ = some (.bool (pfb K 1)) ∧ w.cell? ⟨0, K.toNat * 7 + 2, none⟩ = some (.bool (pfb K 2)) ∧
    w.cell? ⟨0, K.toNat * 7 + 3, none⟩ = some (.bool (pfb K 3)) ∧ w.cell? ⟨0, K.toNat * 7 + 4, none⟩ = some (.bool (pfb K 4)) ∧ w.cell? ⟨0, K.toNat * 7 + 5, none⟩ = some (.bool (pfb K 5)) ∧
    w.cell? ⟨0, K.toNat * 7 + 6, none⟩ = some (.bool (pfb K 6)) := by
  have e : K = 1 ∨ K = 2 ∨ K = 3 ∨ K = 4 ∨ K = 5 ∨ K = 6 ∨ K = 7 ∨ K = 8 ∨ K = 9 ∨ K = 10 := by omega
  rw [h.cell, h.cell, h.cell, h.cell, h.cell, h.cell, h.cell]
  rcases e with rfl | rfl | rfl | rfl | rfl | rfl | rfl | rfl | rfl | rfl <;> exact ⟨rfl, rfl, rfl, rfl, rfl, rfl, rfl⟩
theorem pfb_words {K : Int} (h1 : 1 ≤ K) (h2 : K ≤ 10) : (pfb K 0 = true ↔ K = 2) ∧ (pfb K 1 = true ↔ K = 8) ∧ (pfb K 2 = true ↔ (K = 3 ∨ K = 7 ∨ K = 8)) ∧ (pfb K 3 = true ↔ K = 4) ∧ (pfb K 4 = true ↔ arity K ≠ 0) ∧ (pfb K 5 = true ↔ arity K = 2) ∧ (pfb K 6 = true ↔ perRow K) := by
  have e : K = 1 ∨ K = 2 ∨ K = 3 ∨ K = 4 ∨ K = 5 ∨ K = 6 ∨ K = 7 ∨ K = 8 ∨ K = 9 ∨ K = 10 := by omega
  rcases e with rfl | rfl | rfl | rfl | rfl | rfl | rfl | rfl | rfl | rfl <;> decide

theorem usesEx_calls (K T M L R : Int) (v3 v4 : Value) (w : World) (h1 : 1 ≤ K) (h2 : K ≤ 10) (hT : TPlan w) :
    Calls Tryd.prog 72 #[.agg #[.int .i64 K, .int .i64 T, .int .i64 M, v3, v4, .int .i64 L, .int .i64 R]] w fun e w' => e = .returned (.bool (decide (usesEx K M))) ∧ Below w.heap.size w w' := by
  obtain ⟨_, _, c2, _⟩ := plan_look hT K h1 h2
  have hz := hT.size
  have k0 : (0 : Int) ≤ K := by omega
  have k11 : K < 11 := by omega
  have hw := (pfb_words h1 h2).2.2.1
  have HE : Hid (decide (usesEx K M) = (pfb K 2 && (M != 1))) := by
    show _ = _
    rw [Bool.eq_iff_iff, Bool.and_eq_true, hw, decide_eq_true_iff]
    simp [usesEx]
  clear hT hw
  generalize pfb K 2 = b at *
  generalize decide (usesEx K M) = E at *
  cases b
  · go_enter Tryd.func72, Tryd.ntmps72
    go_wp2
    go_ret
    exact ⟨congrArg (fun z => Ending.returned (.bool z)) (by rw [HE.out]; rfl), bA (Below.refl _ _) _⟩
  · go_enter Tryd.func72, Tryd.ntmps72
    go_wp2
    go_ret
    exact ⟨congrArg (fun z => Ending.returned (.bool z)) (by rw [HE.out]; rfl), bA (Below.refl _ _) _⟩

theorem planKids_none (K T M L R : Int) (v3 v4 : Value) (w : World) (h1 : 1 ≤ K) (h2 : K ≤ 10) (ha : arity K = 0) (hT : TPlan w) :
    Calls Tryd.prog 73 #[.agg #[.int .i64 K, .int .i64 T, .int .i64 M, v3, v4, .int .i64 L, .int .i64 R]] w fun e w' => e = .returned (.slice none 0 0) ∧ Below w.heap.size w w' := by
  obtain ⟨c0, c1, c2, c3, c4, c5, c6⟩ := plan_look hT K h1 h2
  have hz := hT.size
  have k0 : (0 : Int) ≤ K := by omega
  have k11 : K < 11 := by omega
  obtain ⟨_, _, _, _, h4, h5, _⟩ := pfb_words h1 h2
  have e4 : pfb K 4 = false := Bool.eq_false_iff.2 (fun h => h4.1 h ha)
  have e5 : pfb K 5 = false := Bool.eq_false_iff.2 (fun h => by have := h5.1 h; omega)
  rw [e4] at c4
  rw [e5] at c5
  clear hT ha h4 h5 e4 e5
  go_enter Tryd.func73, Tryd.ntmps73
  go_wp2
  go_ret
  exact ⟨rfl, (by repeat (first | exact Below.refl _ _ | refine bA ?_ _ | refine Below.setCell ?_ (by simp <;> omega) _))⟩
theorem planKids_one (K T M L R : Int) (v3 v4 : Value) (w : World) (h1 : 1 ≤ K) (h2 : K ≤ 10) (ha : arity K = 1) (hT : TPlan w) :
    Calls Tryd.prog 73 #[.agg #[.int .i64 K, .int .i64 T, .int .i64 M, v3, v4, .int .i64 L, .int .i64 R]] w fun e w' => ∃ b, e = .returned (.slice (some ⟨b, 0, none⟩) 1 1) ∧ w.heap.size ≤ b ∧ b < w'.heap.size ∧ w'.cell? ⟨b, 0, none⟩ = some (.int .i64 L) ∧ Below w.heap.size w w' := by
  obtain ⟨c0, c1, c2, c3, c4, c5, c6⟩ := plan_look hT K h1 h2
  have hz := hT.size
  have k0 : (0 : Int) ≤ K := by omega
  have k11 : K < 11 := by omega
  obtain ⟨_, _, _, _, h4, h5, _⟩ := pfb_words h1 h2
  have e4 : pfb K 4 = true := h4.2 (by omega)
  have e5 : pfb K 5 = false := Bool.eq_false_iff.2 (fun h => by have := h5.1 h; omega)
  rw [e4] at c4
  rw [e5] at c5
  clear hT ha h4 h5 e4 e5
  go_enter Tryd.func73, Tryd.ntmps73
  go_wp2
  go_ret
  refine ⟨_, rfl, ?_, ?_, by simp [go_sem], (by repeat (first | exact Below.refl _ _ | refine bA ?_ _ | refine Below.setCell ?_ (by simp <;> omega) _))⟩
  · first | omega | (simp <;> omega)
  · first | omega | (simp <;> omega)
theorem planKids_two (K T M L R : Int) (v3 v4 : Value) (w : World) (h1 : 1 ≤ K) (h2 : K ≤ 10) (ha : arity K = 2) (hT : TPlan w) :
    Calls Tryd.prog 73 #[.agg #[.int .i64 K, .int .i64 T, .int .i64 M, v3, v4, .int .i64 L, .int .i64 R]] w fun e w' => ∃ b, e = .returned (.slice (some ⟨b, 0, none⟩) 2 2) ∧ w.heap.size ≤ b ∧ b < w'.heap.size ∧ w'.cell? ⟨b, 0, none⟩ = some (.int .i64 R) ∧ w'.cell? ⟨b, 1, none⟩ = some (.int .i64 L) ∧ Below w.heap.size w w' := by
  obtain ⟨c0, c1, c2, c3, c4, c5, c6⟩ := plan_look hT K h1 h2
  have hz := hT.size
  have k0 : (0 : Int) ≤ K := by omega
  have k11 : K < 11 := by omega
  obtain ⟨_, _, _, _, h4, h5, _⟩ := pfb_words h1 h2
  have e5 : pfb K 5 = true := h5.2 ha
  rw [e5] at c5
  clear hT ha h4 h5 e5
  go_enter Tryd.func73, Tryd.ntmps73
  go_wp2
  go_ret
  refine ⟨_, rfl, ?_, ?_, by simp [go_sem], by simp [go_sem], (by repeat (first | exact Below.refl _ _ | refine bA ?_ _ | refine Below.setCell ?_ (by simp <;> omega) _))⟩
  · first | omega | (simp <;> omega)
  · first | omega | (simp <;> omega)
end Go.Proofs.YtahanplikbdccaaDoor
