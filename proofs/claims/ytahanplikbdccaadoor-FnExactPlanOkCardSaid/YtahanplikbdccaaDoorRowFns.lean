import Derived.Test.YtahanplikbdccaaDoorRowKitV
import Derived.OwnWalk
namespace Go.Proofs.YtahanplikbdccaaDoor
open Go Go.RowKit

/-- make([]impl.Val, n) -/
theorem make_vals (n : Nat) (hn : n ≤ 1048576) (w : World) :
    (Instr.makeSlice 52 (.int .i64 (n : Int)) (.int .i64 (n : Int))).run Tryd.prog w = .ok (.slice (some ⟨w.heap.size, 0, none⟩) n n) (w.alloc (.cells (madeCells #[.bool false, .int .i64 0] (n * 2)) 128)) := by
  obtain ⟨i, hi, hz⟩ := Option.map_eq_some_iff.1 (show (Tryd.prog.info? 128).map (fun i => (i.zero, i.size, i.bytes)) = some (some (.agg #[.bool false, .int .i64 0]), 2, 16) by kernel_rfl)
  simp only [Prod.mk.injEq] at hz
  have := run_make (P := Tryd.prog) w 52 128 i _ Tryd.underlying52 hi hz.1 .i64 .i64 (n : Int) (n : Int) (by omega) (by omega) (by rw [hz.2.2]; omega) (by omega)
  rw [hz.2.1] at this
  simpa [Value.cells] using this

theorem make_vals0 (w : World) : (Instr.makeSlice 52 (.int .i64 0) (.int .i64 0)).run Tryd.prog w = .ok (.slice (some ⟨w.heap.size, 0, none⟩) 0 0) (w.alloc (.cells #[] 128)) := by
  have := make_vals 0 (by omega) w
  rw [show madeCells #[.bool false, .int .i64 0] (0 * 2) = #[] from Array.eq_empty_of_size_eq_zero (by simp [size_madeCells])] at this
  simpa using this

set_option maxHeartbeats 1000000 in
theorem toValS_calls (v : Value) (xs : List V2) (w : World) (hv : IsRow w v xs) (hn : xs.length ≤ 1048576) :
    Calls Tryd.prog 78 #[v] w fun e w' => ∃ g, e = .returned (.slice (some ⟨g, 0, none⟩) xs.length xs.length) ∧ w.heap.size ≤ g ∧ OwnRow w' g xs.length xs ∧ Below w.heap.size w w' := by
  rcases hv with ⟨rfl, a, cap, rfl⟩ | ⟨g, off, cap, rfl, hcap, hg, hr⟩
  · have hmk := make_vals0
    clear hn
    go_enter Tryd.func78, Tryd.ntmps78
    go_wp2
    go_loopw [4] (fun i wr => i = .int .i64 0 ∧ OwnRow wr w.heap.size 0 [] ∧ Below w.heap.size w wr) (fun _ _ => 0)
    case atStart => exact ⟨rfl, OwnRow.made w 0 #[] _ rfl, bA (Below.refl _ _) _⟩
    case round =>
      obtain ⟨rfl, ho, hb⟩ := hrel
      go_wp2
      go_ret
      exact ⟨_, rfl, Nat.le_refl _, ho, hb⟩
  · have hmk := make_vals xs.length hn
    have hO : Hid (OwnRow (w.alloc (.cells (madeCells #[.bool false, .int .i64 0] (xs.length * 2)) 128)) w.heap.size xs.length []) := OwnRow.made w _ _ _ (by simp [size_madeCells])
    go_enter Tryd.func78, Tryd.ntmps78
    go_wp2
    go_loopw [4] (fun i wr => ∃ k : Nat, k ≤ xs.length ∧ i = .int .i64 k ∧ OwnRow wr w.heap.size xs.length (xs.take k) ∧ Below w.heap.size w wr) (fun i _ => xs.length - (intOf i).toNat)
    case atStart => exact ⟨0, Nat.zero_le _, rfl, by simpa using hO.out, bA (Below.refl _ _) _⟩
    case round =>
      clear hO hmk
      obtain ⟨k, hk, rfl, ho, hb⟩ := hrel
      by_cases hlt : k < xs.length
      · obtain ⟨e0, e1⟩ := (hr.of hg hb).at k hlt
        go_wp2_with fail
        refine (toVal_calls _ _ _).mono ?_; rintro e w1 ⟨rfl, hb1⟩
        have d1 := bT hb hb1
        have ho1 := ho.of hb1
        have hN : Hid (OwnRow ((w1.setCell ⟨w.heap.size, k * 2, none⟩ (.bool xs[k].1)).setCell ⟨w.heap.size, k * 2 + 1, none⟩ (.int .i64 xs[k].2)) w.heap.size xs.length (xs.take (k + 1))) := ho1.next hlt hlt
        obtain ⟨u0, hu0⟩ := ho1.all (k * 2) (by omega)
        obtain ⟨u1, hu1⟩ := ho1.all (k * 2 + 1) (by omega)
        have hf := ho1.frz
        clear ho ho1 hb1
        go_wp2
        go_roundw
        case rel => exact ⟨k + 1, by omega, by go_num, hN.out, (d1.setCell (Nat.le_refl _) _).setCell (Nat.le_refl _) _⟩
        case measure => simp [intOf]; omega
      · obtain rfl : k = xs.length := by omega
        rw [List.take_length] at ho
        go_wp2
        go_ret
        exact ⟨_, rfl, Nat.le_refl _, ho, hb⟩

theorem szValS_calls (v : Value) (xs : List V2) (left : Int) (w : World) (hv : IsRow w v xs) (hl : xs.length ≤ maxLen) (h0 : 0 ≤ left) (h1 : left ≤ 1048576) :
    Calls Tryd.prog 77 #[v, .int .i64 left] w fun e w' => e = .returned (.int .i64 (if left < xs.length then -1 else left - xs.length)) ∧ w' = w := by
  unfold maxLen at hl
  obtain ⟨a, cap, rfl⟩ : ∃ a cap, v = .slice a xs.length cap := by
    rcases hv with ⟨rfl, a, cap, rfl⟩ | ⟨g, off, cap, rfl, _⟩
    · exact ⟨a, cap, rfl⟩
    · exact ⟨_, cap, rfl⟩
  by_cases h : left < xs.length
  · rw [if_pos h]
    go_enter Tryd.func77, Tryd.ntmps77
    go_wp2
    go_ret
    exact ⟨rfl, rfl⟩
  · rw [if_neg h]
    go_enter Tryd.func77, Tryd.ntmps77
    go_wp2
    go_ret
    exact ⟨rfl, rfl⟩
end Go.Proofs.YtahanplikbdccaaDoor
