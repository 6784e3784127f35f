import Derived.Test.YtafmlbojmmdcdaaRowFns
namespace Go.Proofs.Ytafmlbojmmdcdaa
open Go Go.RowKit
def clnV (x : V2) : V2 := if x.1 = true then (true, 0) else x
theorem cleanVal_calls' (b : Bool) (n : Int) (w : World) :
    Calls Try.prog 24 #[.agg #[.bool b, .int .i64 n]] w fun e w' => e = .returned (.agg #[.bool (clnV (b, n)).1, .int .i64 (clnV (b, n)).2]) ∧ Below w.heap.size w w' := by
  cases b
  all_goals
    go_enter Try.func24, Try.ntmps24
    go_wp2
    refine bodyPost_ret (v := .agg #[.bool _, .int .i64 _]) (by simp [results, Try.results24, go_sem]; exact ⟨rfl, rfl⟩) rfl ⟨by simp [clnV], ?_⟩
    exact bA (bA (Below.refl _ _) _) _
theorem l1Clean_calls' (b : Bool) (n : Int) (w : World) :
    Calls Try.prog 23 #[.agg #[.bool b, .int .i64 n]] w fun e w' => e = .returned (.agg #[.bool (clnV (b, n)).1, .int .i64 (clnV (b, n)).2]) ∧ Below w.heap.size w w' := by
  cases b
  all_goals
    go_enter Try.func23, Try.ntmps23
    go_wp2
    refine bodyPost_ret (v := .agg #[.bool _, .int .i64 _]) (by simp [results, Try.results23, go_sem]; exact ⟨rfl, rfl⟩) rfl ⟨by simp [clnV], ?_⟩
    exact bA (bA (Below.refl _ _) _) _
set_option maxHeartbeats 1000000 in
theorem copyRow_calls (xs : List V2) (g off cap : Nat) (w : World) (hg : g < w.heap.size) (hr : RowAt w g off xs) (hn : xs.length ≤ 1048576) :
    Calls Try.prog 16 #[.slice (some ⟨g, off, none⟩) xs.length cap] w fun e w' => ∃ g', e = .returned (.slice (some ⟨g', 0, none⟩) xs.length xs.length) ∧ w.heap.size ≤ g' ∧ OwnRow w' g' xs.length (xs.map clnV) ∧ Below w.heap.size w w' := by
  have hmk := make_vals xs.length hn
  have hO : Hid (OwnRow (w.alloc (.cells (madeCells #[.bool false, .int .i64 0] (xs.length * 2)) 40)) w.heap.size xs.length []) := OwnRow.made w _ _ _ (by simp [size_madeCells])
  go_enter Try.func16, Try.ntmps16
  go_wp2
  go_loopw [4, 5, 11] (fun _ _ i wr => ∃ k : Nat, k ≤ xs.length ∧ i = .int .i64 k ∧ OwnRow wr w.heap.size xs.length ((xs.map clnV).take k) ∧ Below w.heap.size w wr) (fun _ _ i _ => xs.length - (intOf i).toNat)
  case atStart => exact ⟨0, Nat.zero_le _, rfl, by simpa using hO.out, bA (Below.refl _ _) _⟩
  case round =>
    clear hO hmk
    obtain ⟨k, hk, rfl, ho, hb⟩ := hrel
    by_cases hlt : k < xs.length
    · obtain ⟨e0, e1⟩ := (hr.of hg hb).at k hlt
      have j1 : (k : Int) < (xs.length : Int) := by omega
      have hlm : k < (xs.map clnV).length := by simpa using hlt
      have hmk : (xs.map clnV)[k] = clnV xs[k] := by simp
      have CV := fun w => cleanVal_calls' xs[k].1 xs[k].2 w
      have HC := hide CV
      clear CV
      have q1 : g < wr.heap.size := Nat.lt_of_lt_of_le hg hb.size
      go_wp2_with fail
      refine (unhide HC _).mono ?_; rintro e w1 ⟨rfl, hb1⟩
      have d1 := bT (bA hb _) hb1
      have ho1 := ho.of (bT (bA (Below.refl wr.heap.size wr) _) hb1)
      have hN : Hid (OwnRow ((w1.setCell ⟨w.heap.size, k * 2, none⟩ (.bool (clnV xs[k]).1)).setCell ⟨w.heap.size, k * 2 + 1, none⟩ (.int .i64 (clnV xs[k]).2)) w.heap.size xs.length ((xs.map clnV).take (k + 1))) := by
        have := ho1.next hlm (by simpa using hlt)
        rw [hmk] at this
        exact this
      obtain ⟨u0, hu0⟩ := ho1.all (k * 2) (by omega)
      obtain ⟨u1, hu1⟩ := ho1.all (k * 2 + 1) (by omega)
      have hf := ho1.frz
      clear ho ho1 hb1 hmk hlm HC
      go_wp2
      go_roundw
      case rel => exact ⟨k + 1, by omega, by go_num, hN.out, (d1.setCell (Nat.le_refl _) _).setCell (Nat.le_refl _) _⟩
      case measure => simp [intOf]; omega
    · obtain rfl : k = xs.length := by omega
      rw [List.take_of_length_le (by simp)] at ho
      go_wp2
      go_ret
      exact ⟨_, rfl, Nat.le_refl _, ho, hb⟩
end Go.Proofs.Ytafmlbojmmdcdaa
