import Derived.Test.YtafmlbojmmdcdaaDoorTruth
import Derived.Test.YtafmlbojmmdcdaaDoorCompare
import Derived.Deep.RegionHeld3
import Derived.Deep.DeepCutAuto
namespace Go.Proofs.YtafmlbojmmdcdaaDoor
open Go Go.RowKit
/-- whether a op b holds -/
def holds (op n m : Int) : Bool := if n < m then decide (op = 2 ∨ op = 3 ∨ op = 4) else if m < n then decide (op = 2 ∨ op = 5 ∨ op = 6) else decide (op = 1 ∨ op = 4 ∨ op = 6)
/-- the truth value of a comparison -/
def cmp3 (op : Int) (b c : Bool) (n m : Int) : Int := if b = true ∨ c = true ∨ op < 1 ∨ 6 < op then 1 else if holds op n m = true then 2 else 0

set_option maxHeartbeats 1000000 in
theorem l1Holds_calls (op n m : Int) (h : op = 1 ∨ op = 2 ∨ op = 3 ∨ op = 4 ∨ op = 5 ∨ op = 6) (w : World) :
    Calls Tryd.prog 27 #[.int .i64 op, .int .i64 n, .int .i64 m] w fun e w' => e = .returned (.bool (holds op n m)) ∧ w' = w := by
  by_cases h1 : n < m
  · have e1 : (n == m) = false := by simp; omega
    have e2 : decide (m < n) = false := by simp; omega
    have e3 : decide (n < m) = true := by simpa using h1
    have hh : Hid (holds op n m = decide (op = 2 ∨ op = 3 ∨ op = 4)) := by show _ = _; simp [holds, h1]
    rcases h with rfl | rfl | rfl | rfl | rfl | rfl
    all_goals
      go_enter Tryd.func27, Tryd.ntmps27
      go_wp2
      go_ret
      exact ⟨by rw [hh.out]; rfl, rfl⟩
  · by_cases h2 : m < n
    · have e1 : (n == m) = false := by simp; omega
      have e2 : decide (m < n) = true := by simpa using h2
      have e3 : decide (n < m) = false := by simpa using h1
      have hh : Hid (holds op n m = decide (op = 2 ∨ op = 5 ∨ op = 6)) := by show _ = _; simp [holds, h1, h2]
      rcases h with rfl | rfl | rfl | rfl | rfl | rfl
      all_goals
        go_enter Tryd.func27, Tryd.ntmps27
        go_wp2
        go_ret
        exact ⟨by rw [hh.out]; rfl, rfl⟩
    · have h3 : n = m := by omega
      subst h3
      have hh : Hid (holds op n n = decide (op = 1 ∨ op = 4 ∨ op = 6)) := by show _ = _; simp [holds]
      rcases h with rfl | rfl | rfl | rfl | rfl | rfl
      all_goals
        go_enter Tryd.func27, Tryd.ntmps27
        go_wp2
        go_ret
        exact ⟨by rw [hh.out]; rfl, rfl⟩
end Go.Proofs.YtafmlbojmmdcdaaDoor
