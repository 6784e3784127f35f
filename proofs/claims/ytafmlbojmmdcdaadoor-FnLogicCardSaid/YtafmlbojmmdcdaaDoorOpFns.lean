import Derived.Test.YtafmlbojmmdcdaaDoorOpKit
import Derived.OwnWalk
namespace Go.Proofs.YtafmlbojmmdcdaaDoor
open Go Go.RowKit

/-- make([]impl.Op, n) -/
theorem make_ops (n : Nat) (hn : n ≤ 1048576) (w : World) :
    (Instr.makeSlice 31 (.int .i64 (n : Int)) (.int .i64 (n : Int))).run Tryd.prog w = .ok (.slice (some ⟨w.heap.size, 0, none⟩) n n) (w.alloc (.cells (madeCells #[.int .i64 0, .int .i64 0] (n * 2)) 39)) := by
  obtain ⟨i, hi, hz⟩ := Option.map_eq_some_iff.1 (show (Tryd.prog.info? 39).map (fun i => (i.zero, i.size, i.bytes)) = some (some (.agg #[.int .i64 0, .int .i64 0]), 2, 16) by kernel_rfl)
  simp only [Prod.mk.injEq] at hz
  have := run_make (P := Tryd.prog) w 31 39 i _ Tryd.underlying31 hi hz.1 .i64 .i64 (n : Int) (n : Int) (by omega) (by omega) (by rw [hz.2.2]; omega) (by omega)
  rw [hz.2.1] at this
  simpa [Value.cells] using this

theorem make_ops0 (w : World) : (Instr.makeSlice 31 (.int .i64 0) (.int .i64 0)).run Tryd.prog w = .ok (.slice (some ⟨w.heap.size, 0, none⟩) 0 0) (w.alloc (.cells #[] 39)) := by
  have := make_ops 0 (by omega) w
  rw [show madeCells #[.int .i64 0, .int .i64 0] (0 * 2) = #[] from Array.eq_empty_of_size_eq_zero (by simp [size_madeCells])] at this
  simpa using this

end Go.Proofs.YtafmlbojmmdcdaaDoor
