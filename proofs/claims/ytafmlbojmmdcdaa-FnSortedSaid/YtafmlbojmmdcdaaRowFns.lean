import Derived.Test.YtafmlbojmmdcdaaRowKitV
import Derived.OwnWalk
namespace Go.Proofs.Ytafmlbojmmdcdaa
open Go Go.RowKit

/-- make([]impl.Val, n) -/
theorem make_vals (n : Nat) (hn : n ≤ 1048576) (w : World) :
    (Instr.makeSlice 27 (.int .i64 (n : Int)) (.int .i64 (n : Int))).run Try.prog w = .ok (.slice (some ⟨w.heap.size, 0, none⟩) n n) (w.alloc (.cells (madeCells #[.bool false, .int .i64 0] (n * 2)) 40)) := by
  obtain ⟨i, hi, hz⟩ := Option.map_eq_some_iff.1 (show (Try.prog.info? 40).map (fun i => (i.zero, i.size, i.bytes)) = some (some (.agg #[.bool false, .int .i64 0]), 2, 16) by kernel_rfl)
  simp only [Prod.mk.injEq] at hz
  have := run_make (P := Try.prog) w 27 40 i _ Try.underlying27 hi hz.1 .i64 .i64 (n : Int) (n : Int) (by omega) (by omega) (by rw [hz.2.2]; omega) (by omega)
  rw [hz.2.1] at this
  simpa [Value.cells] using this

theorem make_vals0 (w : World) : (Instr.makeSlice 27 (.int .i64 0) (.int .i64 0)).run Try.prog w = .ok (.slice (some ⟨w.heap.size, 0, none⟩) 0 0) (w.alloc (.cells #[] 40)) := by
  have := make_vals 0 (by omega) w
  rw [show madeCells #[.bool false, .int .i64 0] (0 * 2) = #[] from Array.eq_empty_of_size_eq_zero (by simp [size_madeCells])] at this
  simpa using this

end Go.Proofs.Ytafmlbojmmdcdaa
