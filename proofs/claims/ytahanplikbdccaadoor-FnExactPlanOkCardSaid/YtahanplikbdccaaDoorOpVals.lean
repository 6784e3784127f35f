import Derived.Test.YtahanplikbdccaaDoorBase
namespace Go.Proofs.YtahanplikbdccaaDoor
open Go Go.RowKit

theorem toOp_calls (b : Int) (n : Int) (w : World) :
    Calls Tryd.prog 82 #[.agg #[.int .i64 b, .int .i64 n]] w fun e w' => e = .returned (.agg #[.int .i64 b, .int .i64 n]) ∧ Below w.heap.size w w' := by
  go_enter Tryd.func82, Tryd.ntmps82
  go_wp2
  exact bodyPost_ret (v := .agg #[.int .i64 b, .int .i64 n]) (by simp [results, Tryd.results82, go_sem]) rfl ⟨rfl, bA (bA (bA (Below.refl _ _) _) _) _⟩

theorem eqOp_calls (b n : Int) (w : World) :
    Calls Tryd.prog 84 #[.agg #[.int .i64 b, .int .i64 n], .agg #[.int .i64 b, .int .i64 n]] w fun e w' => e = .returned (.bool true) ∧ Below w.heap.size w w' := by
  have hb : (b != b) = false := by simp
  have hn : (n != n) = false := by simp
  go_enter Tryd.func84, Tryd.ntmps84
  go_wp2
  go_ret
  exact ⟨by simp, bA (bA (Below.refl _ _) _) _⟩
end Go.Proofs.YtahanplikbdccaaDoor
