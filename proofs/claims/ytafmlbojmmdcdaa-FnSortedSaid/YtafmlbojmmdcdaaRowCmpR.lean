import Derived.Test.YtafmlbojmmdcdaaRowCmpS
namespace Go.Proofs.Ytafmlbojmmdcdaa
open Go Go.RowKit

/-- where xs[1:] begins -/
def from1 (off cap : Nat) : Nat := if cap = 1 then off else off + 2
theorem slice1 (g off n cap : Nat) (w : World) : (Instr.slice 27 (.slice (some ⟨g, off, none⟩) (n + 1) cap) (some (.int .i64 1)) none none).run Try.prog w = .ok (.slice (some ⟨g, from1 off cap, none⟩) n (cap - 1)) w := by
  have ht : Try.prog.underlying 27 = some (.slice (Try.prog.elem 27)) := by kernel_rfl
  have hs : ∀ w, (sizeOf (Try.prog.elem 27)).run Try.prog w = .ok 2 w := fun _ => by kernel_rfl
  rw [run_slice_l _ _ _ _ _ ht .i64 1 (by omega) (by omega), hs]
  by_cases h : cap = 1
  · simp [Result.andThen, sliced, from1, h]
  · simp [Result.andThen, sliced, from1, h, Addr.add]
theorem RowAt.from1 {w : World} {g off cap : Nat} {x : V2} {xs : List V2} (h : RowAt w g off (x :: xs)) (hc : xs.length + 1 ≤ cap) : RowAt w g (from1 off cap) xs := by
  unfold Go.Proofs.Ytafmlbojmmdcdaa.from1
  split
  · have : xs = [] := List.eq_nil_of_length_eq_zero (by omega)
    subst this
    intro i y hy
    simp at hy
  · exact h.tail

set_option maxHeartbeats 1000000 in
theorem sRowCmp_calls : ∀ (xs ys : List V2) (g off cap g' off' cap' : Nat) (w : World), g < w.heap.size → g' < w.heap.size → RowAt w g off xs → RowAt w g' off' ys → xs.length ≤ cap → ys.length ≤ cap' → xs.length ≤ 1048576 → ys.length ≤ 1048576 →
    Calls Try.prog 8 #[.slice (some ⟨g, off, none⟩) xs.length cap, .slice (some ⟨g', off', none⟩) ys.length cap'] w fun e w' => e = .returned (.int .i64 (rcmp xs ys)) ∧ Below w.heap.size w w'
  | [], [], g, off, cap, g', off', cap', w, hg, hg', hx, hy, k1, k2, b1, b2 => by
    go_enter Try.func8, Try.ntmps8
    go_wp2
    go_ret
    exact ⟨by simp [rcmp], Below.refl _ _⟩
  | [], y :: ys, g, off, cap, g', off', cap', w, hg, hg', hx, hy, k1, k2, b1, b2 => by
    have e1 : (((ys.length : Int) + 1) == 0) = false := by simp; omega
    go_enter Try.func8, Try.ntmps8
    go_wp2
    go_ret
    exact ⟨by simp [rcmp], Below.refl _ _⟩
  | x :: xs, [], g, off, cap, g', off', cap', w, hg, hg', hx, hy, k1, k2, b1, b2 => by
    have e1 : (((xs.length : Int) + 1) == 0) = false := by simp; omega
    go_enter Try.func8, Try.ntmps8
    go_wp2
    go_ret
    exact ⟨by simp [rcmp], Below.refl _ _⟩
  | x :: xs, y :: ys, g, off, cap, g', off', cap', w, hg, hg', hx, hy, k1, k2, b1, b2 => by
    have IH : Hid (∀ o o' cap cap' w, g < w.heap.size → g' < w.heap.size → RowAt w g o xs → RowAt w g' o' ys → xs.length ≤ cap → ys.length ≤ cap' → Calls Try.prog 8 #[.slice (some ⟨g, o, none⟩) xs.length cap, .slice (some ⟨g', o', none⟩) ys.length cap'] w fun e w' => e = .returned (.int .i64 (rcmp xs ys)) ∧ Below w.heap.size w w') :=
      fun o o' cap cap' w h1 h2 h3 h4 h5 h6 => sRowCmp_calls xs ys g o cap g' o' cap' w h1 h2 h3 h4 h5 h6 (by simp at b1; omega) (by simp at b2; omega)
    have e1 : (((xs.length : Int) + 1) == 0) = false := by simp; omega
    have e2 : (((ys.length : Int) + 1) == 0) = false := by simp; omega
    obtain ⟨x0, x1⟩ := hx 0 x rfl
    obtain ⟨y0, y1⟩ := hy 0 y rfl
    simp only [Nat.zero_mul, Nat.add_zero] at x0 x1 y0 y1
    simp only [List.length_cons] at k1 k2 b1 b2
    go_enter Try.func8, Try.ntmps8
    go_upto_region 7 with fail
    have h1 := Below.refl w.heap.size w
    have h2 := h1
    go_region_held3 (Std w) (repeat (first | with_reducible assumption | with_reducible exact Std.refl _ | with_reducible refine Std.drew ?_ | with_reducible refine Std.alloc ?_ _ | with_reducible refine Std.setCell ?_ ?_ _ | with_reducible refine Std.call ?_ (by with_reducible assumption) | (simp <;> omega) | omega)) (first | (go_at_call 20; refine (l1ValCmp_calls _ _ _ _ _).mono ?_; rintro e w1 ⟨rfl, hb⟩; (first | have n3 := bT h2 hb | have n3 := bT (bA h2 _) hb | have n3 := bT (Below.drew h2) hb | have n3 := bT (Below.drew (bA h2 _)) hb | have n3 := bT (bA (Below.drew h2) _) hb); (first | have n2 := bT h1 hb | have n2 := bT (bA h1 _) hb | have n2 := bT (Below.drew h1) hb | have n2 := bT (Below.drew (bA h1 _)) hb | have n2 := bT (bA (Below.drew h1) _) hb); obtain ⟨c1, f1⟩ := bcell hb; obtain ⟨c2, f2⟩ := bcell n2; obtain ⟨c3, f3⟩ := bcell n3; have hs := hb.size; (try simp at hs); clear h1 h2; have h1 := hb; have h2 := n2; clear n2 hb))
    by_cases hv : vcmp x y = 0
    · have e3 : (vcmp x y != 0) = false := by simp [hv]
      have HV : Hid (rcmp (x :: xs) (y :: ys) = rcmp xs ys) := by show _ = _; simp [rcmp, hv]
      clear hv
      have q1 : g < w1.heap.size := Nat.lt_of_lt_of_le hg h2.size
      have q2 : g' < w1.heap.size := Nat.lt_of_lt_of_le hg' h2.size
      have r1 : RowAt w1.drew g (from1 off cap) xs := fun i x hx' => (hx.of hg h2).from1 k1 i x hx'
      have r2 : RowAt w1.drew g' (from1 off' cap') ys := fun i x hx' => (hy.of hg' h2).from1 k2 i x hx'
      have s1 := slice1 g off xs.length cap
      have s2 := slice1 g' off' ys.length cap'
      generalize from1 off cap = o at *
      generalize from1 off' cap' = o' at *
      go_wp2_with fail
      go_region_held3 (Std w1) (repeat (first | with_reducible assumption | with_reducible exact Std.refl _ | with_reducible refine Std.drew ?_ | with_reducible refine Std.alloc ?_ _ | with_reducible refine Std.setCell ?_ ?_ _ | with_reducible refine Std.call ?_ (by with_reducible assumption) | (simp <;> omega) | omega)) (first | (go_at_call 8; refine (IH.out o o' _ _ w1.drew q1 q2 r1 r2 (by omega) (by omega)).mono ?_; rintro e w2 ⟨rfl, hb2⟩))
      go_wp2
      go_ret
      exact ⟨congrArg (fun z => Ending.returned (.int .i64 z)) HV.out.symm, bT h2 (Below.drew (Below.refl _ _)) |>.trans (hb2.mono h2.size)⟩
    · have e3 : (vcmp x y != 0) = true := by simp [hv]
      have HV : Hid (rcmp (x :: xs) (y :: ys) = vcmp x y) := by show _ = _; simp [rcmp, hv]
      clear hv
      go_wp2
      go_ret
      exact ⟨congrArg (fun z => Ending.returned (.int .i64 z)) HV.out.symm, h2⟩
end Go.Proofs.Ytafmlbojmmdcdaa
