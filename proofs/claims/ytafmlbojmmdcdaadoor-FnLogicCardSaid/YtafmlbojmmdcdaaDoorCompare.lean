import Derived.Test.YtafmlbojmmdcdaaDoorBase
namespace Go.Proofs.YtafmlbojmmdcdaaDoor
open Go Go.RowKit

/-- how two numbers stand -/
def cmpv (n m : Int) : Int := if n < m then -1 else if m < n then 1 else 0
theorem Compare_calls (n m : Int) (w : World) :
    Calls Tryd.prog 26 #[.int .i64 n, .int .i64 m] w fun e w' => e = .returned (.int .i64 (cmpv n m)) ∧ w' = w := by
  have hn : (n != n) = false := by simp
  have hm : (m != m) = false := by simp
  by_cases h1 : n < m
  · go_enter Tryd.func26, Tryd.ntmps26
    go_wp2
    go_ret
    exact ⟨by simp [cmpv, h1], rfl⟩
  · by_cases h2 : m < n
    · go_enter Tryd.func26, Tryd.ntmps26
      go_wp2
      go_ret
      exact ⟨by simp [cmpv, h2, Int.not_lt.2 (Int.le_of_lt h2)], rfl⟩
    · have h3 : n = m := by omega
      subst h3
      go_enter Tryd.func26, Tryd.ntmps26
      go_wp2
      go_ret
      exact ⟨by simp [cmpv], rfl⟩

end Go.Proofs.YtafmlbojmmdcdaaDoor
