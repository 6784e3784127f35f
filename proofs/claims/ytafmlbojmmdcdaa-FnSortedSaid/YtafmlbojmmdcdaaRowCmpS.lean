import Derived.Test.YtafmlbojmmdcdaaRowFns
import Derived.Test.YtafmlbojmmdcdaaCompareI
import Derived.Deep.RegionHeld3
import Derived.Deep.DeepCutAuto
namespace Go.Proofs.Ytafmlbojmmdcdaa
open Go Go.RowKit

/-- the order of Vals, and of rows -/
def vcmp (x y : V2) : Int := if x.1 = true ∧ y.1 = true then 0 else if x.1 = true then -1 else if y.1 = true then 1 else cmpv x.2 y.2
def rcmp : List V2 → List V2 → Int
  | [], [] => 0
  | [], _ :: _ => -1
  | _ :: _, [] => 1
  | x :: xs, y :: ys => if vcmp x y = 0 then rcmp xs ys else vcmp x y

theorem l1ValCmp_calls (b c : Bool) (n m : Int) (w : World) :
    Calls Try.prog 20 #[.agg #[.bool b, .int .i64 n], .agg #[.bool c, .int .i64 m]] w fun e w' => e = .returned (.int .i64 (vcmp (b, n) (c, m))) ∧ Below w.heap.size w w' := by
  cases b <;> cases c
  · by_cases h1 : n < m
    · go_enter Try.func20, Try.ntmps20
      go_wp2
      go_ret
      exact ⟨by simp [vcmp, cmpv, h1], bA (bA (Below.refl _ _) _) _⟩
    · by_cases h2 : m < n
      · go_enter Try.func20, Try.ntmps20
        go_wp2
        go_ret
        exact ⟨by simp [vcmp, cmpv, Int.not_lt.2 (Int.le_of_lt h2), h2], bA (bA (Below.refl _ _) _) _⟩
      · obtain rfl : n = m := by omega
        go_enter Try.func20, Try.ntmps20
        go_wp2
        go_ret
        exact ⟨by simp [vcmp, cmpv], bA (bA (Below.refl _ _) _) _⟩
  all_goals
    go_enter Try.func20, Try.ntmps20
    go_wp2
    go_ret
    exact ⟨by simp [vcmp], bA (bA (Below.refl _ _) _) _⟩

theorem valCmp_calls (b c : Bool) (n m : Int) (w : World) :
    Calls Try.prog 18 #[.agg #[.bool b, .int .i64 n], .agg #[.bool c, .int .i64 m]] w fun e w' => e = .returned (.int .i64 (vcmp (b, n) (c, m))) ∧ Below w.heap.size w w' := by
  cases b <;> cases c
  · go_enter Try.func18, Try.ntmps18
    go_wp2_with (go_at_call 26; refine (Compare_calls _ _ _).mono ?_; rintro e w1 ⟨rfl, rfl⟩)
    go_ret
    exact ⟨by simp [vcmp], bA (bA (Below.refl _ _) _) _⟩
  all_goals
    go_enter Try.func18, Try.ntmps18
    go_wp2
    go_ret
    exact ⟨by simp [vcmp], bA (bA (Below.refl _ _) _) _⟩
end Go.Proofs.Ytafmlbojmmdcdaa
