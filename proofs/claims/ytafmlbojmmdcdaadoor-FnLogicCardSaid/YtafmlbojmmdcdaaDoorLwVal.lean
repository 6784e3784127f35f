import Derived.Test.YtafmlbojmmdcdaaDoorBase
namespace Go.Proofs.YtafmlbojmmdcdaaDoor
open Go Go.RowKit
theorem lwSameVal_calls (b c : Bool) (n m : Int) (w : World) :
    Calls Tryd.prog 9 #[.agg #[.bool b, .int .i64 n], .agg #[.bool c, .int .i64 m]] w fun e w' => e = .returned (.bool (b == c && n == m)) ∧ Below w.heap.size w w' := by
  by_cases h2 : n = m
  · subst h2
    have hn : (n == n) = true := by simp
    cases b <;> cases c
    all_goals
      go_enter Tryd.func9, Tryd.ntmps9
      go_wp2
      go_ret
      exact ⟨by simp, bA (bA (Below.refl _ _) _) _⟩
  · have hn : (n == m) = false := by simpa using h2
    cases b <;> cases c
    all_goals
      go_enter Tryd.func9, Tryd.ntmps9
      go_wp2
      go_ret
      exact ⟨by simp [h2], bA (bA (Below.refl _ _) _) _⟩
end Go.Proofs.YtafmlbojmmdcdaaDoor
