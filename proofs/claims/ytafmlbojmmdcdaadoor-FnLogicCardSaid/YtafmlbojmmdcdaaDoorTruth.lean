import Derived.Test.YtafmlbojmmdcdaaDoorVals
namespace Go.Proofs.YtafmlbojmmdcdaaDoor
open Go Go.RowKit

theorem truthOf_calls (b : Bool) (n : Int) (w : World) :
    Calls Tryd.prog 23 #[.agg #[.bool b, .int .i64 n]] w fun e w' => e = .returned (.int .i64 (tr b n)) ∧ Below w.heap.size w w' := by
  cases b
  · by_cases h : n = 0
    · subst h
      go_enter Tryd.func23, Tryd.ntmps23
      go_wp2
      go_ret
      exact ⟨by simp [tr], bA (Below.refl _ _) _⟩
    · have hn : (n == 0) = false := by simpa using h
      go_enter Tryd.func23, Tryd.ntmps23
      go_wp2
      go_ret
      exact ⟨by simp [tr, h], bA (Below.refl _ _) _⟩
  · go_enter Tryd.func23, Tryd.ntmps23
    go_wp2
    go_ret
    exact ⟨by simp [tr], bA (Below.refl _ _) _⟩

theorem l1Truth_calls (b : Bool) (n : Int) (w : World) :
    Calls Tryd.prog 25 #[.agg #[.bool b, .int .i64 n]] w fun e w' => e = .returned (.int .i64 (tr b n)) ∧ Below w.heap.size w w' := by
  cases b
  · by_cases h : n = 0
    · subst h
      go_enter Tryd.func25, Tryd.ntmps25
      go_wp2
      go_ret
      exact ⟨by simp [tr], bA (Below.refl _ _) _⟩
    · have hn : (n == 0) = false := by simpa using h
      go_enter Tryd.func25, Tryd.ntmps25
      go_wp2
      go_ret
      exact ⟨by simp [tr, h], bA (Below.refl _ _) _⟩
  · go_enter Tryd.func25, Tryd.ntmps25
    go_wp2
    go_ret
    exact ⟨by simp [tr], bA (Below.refl _ _) _⟩

theorem l1Val_calls (t : Int) (h : t = 0 ∨ t = 1 ∨ t = 2) (w : World) :
    Calls Tryd.prog 24 #[.int .i64 t] w fun e w' => e = .returned (.agg #[.bool (vB t), .int .i64 (vI t)]) ∧ Below w.heap.size w w' := by
  rcases h with rfl | rfl | rfl
  all_goals
    go_enter Tryd.func24, Tryd.ntmps24
    go_wp2
    refine bodyPost_ret (v := .agg #[.bool _, .int .i64 _]) (by simp [results, Tryd.results24, go_sem]; exact ⟨rfl, rfl⟩) rfl ⟨by simp [vB, vI], bA (Below.refl _ _) _⟩

abbrev TVal (w : World) : Prop := TabAt w 0 [.bool false, .int .i64 0, .bool true, .int .i64 0, .bool false, .int .i64 1]
abbrev TNot (w : World) : Prop := TabAt w 1 [.int .i64 2, .int .i64 1, .int .i64 0]
theorem val_look {w : World} (h : TVal w) (z : Nat) (hz : z ≤ 2) : w.cell? ⟨0, z * 2, none⟩ = some (.bool (vB z)) ∧ w.cell? ⟨0, z * 2 + 1, none⟩ = some (.int .i64 (vI z)) := by
  rw [h.cell, h.cell]
  have e1 : z = 0 ∨ z = 1 ∨ z = 2 := by omega
  rcases e1 with rfl | rfl | rfl <;> exact ⟨rfl, rfl⟩

end Go.Proofs.YtafmlbojmmdcdaaDoor
