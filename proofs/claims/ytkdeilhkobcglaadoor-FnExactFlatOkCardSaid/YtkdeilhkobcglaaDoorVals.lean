import Derived.Test.YtkdeilhkobcglaaDoorBase
namespace Go.Proofs.YtkdeilhkobcglaaDoor
open Go Go.RowKit

theorem toVal_calls (b : Bool) (n : Int) (w : World) :
    Calls Tryd.prog 105 #[.agg #[.bool b, .int .i64 n]] w fun e w' => e = .returned (.agg #[.bool b, .int .i64 n]) ∧ Below w.heap.size w w' := by
  go_enter Tryd.func105, Tryd.ntmps105
  go_wp2
  exact bodyPost_ret (v := .agg #[.bool b, .int .i64 n]) (by simp [results, Tryd.results105, go_sem]) rfl ⟨rfl, bA (bA (bA (Below.refl _ _) _) _) _⟩

theorem eqVal_calls (b c : Bool) (n m : Int) (w : World) :
    Calls Tryd.prog 111 #[.agg #[.bool b, .int .i64 n], .agg #[.bool c, .int .i64 m]] w fun e w' => e = .returned (.bool (b == c && n == m)) ∧ Below w.heap.size w w' := by
  by_cases h2 : n = m
  · subst h2
    have hn : (n != n) = false := by simp
    cases b <;> cases c
    all_goals
      go_enter Tryd.func111, Tryd.ntmps111
      go_wp2
      go_ret
      exact ⟨by simp, bA (bA (Below.refl _ _) _) _⟩
  · have hn : (n != m) = true := by simpa using h2
    cases b <;> cases c
    all_goals
      go_enter Tryd.func111, Tryd.ntmps111
      go_wp2
      go_ret
      exact ⟨by simp [h2], bA (bA (Below.refl _ _) _) _⟩

end Go.Proofs.YtkdeilhkobcglaaDoor
