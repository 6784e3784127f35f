import Derived.Test.YtafmlbojmmdcdaaRowCmpR
namespace Go.Proofs.Ytafmlbojmmdcdaa
open Go Go.RowKit

theorem rcmp_step (xs ys : List V2) (k : Nat) (h1 : k < xs.length) (h2 : k < ys.length) :
    rcmp (xs.drop k) (ys.drop k) = if vcmp xs[k] ys[k] = 0 then rcmp (xs.drop (k + 1)) (ys.drop (k + 1)) else vcmp xs[k] ys[k] := by
  rw [List.drop_eq_getElem_cons h1, List.drop_eq_getElem_cons h2, rcmp]
theorem rcmp_end (xs ys : List V2) (k : Nat) (h1 : k ≤ xs.length) (h2 : k ≤ ys.length) (h : k = xs.length ∨ k = ys.length) : rcmp (xs.drop k) (ys.drop k) = cmpv xs.length ys.length := by
  unfold cmpv
  rcases h with rfl | rfl
  · rw [List.drop_length]
    cases hd : ys.drop xs.length with
    | nil =>
      have : ys.length ≤ xs.length := List.drop_eq_nil_iff.1 hd
      rw [if_neg (by omega), if_neg (by omega), rcmp]
    | cons y r =>
      have : (ys.drop xs.length).length = r.length + 1 := by rw [hd]; rfl
      simp at this
      rw [if_pos (by omega), rcmp]
  · rw [List.drop_length]
    cases hd : xs.drop ys.length with
    | nil =>
      have : xs.length ≤ ys.length := List.drop_eq_nil_iff.1 hd
      rw [if_neg (by omega), if_neg (by omega), rcmp]
    | cons y r =>
      have : (xs.drop ys.length).length = r.length + 1 := by rw [hd]; rfl
      simp at this
      rw [if_neg (by omega), if_pos (by omega), rcmp]

set_option maxHeartbeats 1000000 in
theorem RowCmp_calls (xs ys : List V2) (g off cap g' off' cap' : Nat) (w : World) (hg : g < w.heap.size) (hg' : g' < w.heap.size) (hx : RowAt w g off xs) (hy : RowAt w g' off' ys) (b1 : xs.length ≤ 1048576) (b2 : ys.length ≤ 1048576) :
    Calls Try.prog 7 #[.slice (some ⟨g, off, none⟩) xs.length cap, .slice (some ⟨g', off', none⟩) ys.length cap'] w fun e w' => e = .returned (.int .i64 (rcmp xs ys)) ∧ Below w.heap.size w w' := by
  by_cases hmn : (ys.length : Int) < (xs.length : Int)
  all_goals
    go_enter Try.func7, Try.ntmps7
    go_wp2
    go_loopw [5, 6, 12] (fun _ _ c wr => ∃ k : Nat, k ≤ xs.length ∧ k ≤ ys.length ∧ c = .int .i64 k ∧ rcmp xs ys = rcmp (xs.drop k) (ys.drop k) ∧ Below w.heap.size w wr) (fun _ _ c _ => xs.length - (intOf c).toNat)
    case atStart => exact ⟨0, Nat.zero_le _, Nat.zero_le _, rfl, by simp, Below.refl _ _⟩
    case round =>
      obtain ⟨k, hk1, hk2, rfl, hr0, hb⟩ := hrel
      have HR : Hid (rcmp xs ys = rcmp (xs.drop k) (ys.drop k)) := hr0
      clear hr0
      by_cases hlt : k < xs.length ∧ k < ys.length
      · obtain ⟨l1, l2⟩ := hlt
        obtain ⟨x0, x1⟩ := (hx.of hg hb).at k l1
        obtain ⟨y0, y1⟩ := (hy.of hg' hb).at k l2
        have j1 : (k : Int) < (xs.length : Int) := by omega
        have j2 : (k : Int) < (ys.length : Int) := by omega
        have q1 : g < wr.heap.size := Nat.lt_of_lt_of_le hg hb.size
        have q2 : g' < wr.heap.size := Nat.lt_of_lt_of_le hg' hb.size
        go_upto_region 4 with fail
        have h1 := Below.refl wr.heap.size wr
        have h2 := h1
        go_region_held3 (Std wr) (repeat (first | with_reducible assumption | with_reducible exact Std.refl _ | with_reducible refine Std.drew ?_ | with_reducible refine Std.alloc ?_ _ | with_reducible refine Std.setCell ?_ ?_ _ | with_reducible refine Std.call ?_ (by with_reducible assumption) | (simp <;> omega) | omega)) (first | (go_at_call 18; refine (valCmp_calls _ _ _ _ _).mono ?_; rintro e w1 ⟨rfl, hb⟩; (first | have n3 := bT h2 hb | have n3 := bT (bA h2 _) hb | have n3 := bT (Below.drew h2) hb | have n3 := bT (Below.drew (bA h2 _)) hb | have n3 := bT (bA (Below.drew h2) _) hb); (first | have n2 := bT h1 hb | have n2 := bT (bA h1 _) hb | have n2 := bT (Below.drew h1) hb | have n2 := bT (Below.drew (bA h1 _)) hb | have n2 := bT (bA (Below.drew h1) _) hb); obtain ⟨c1, f1⟩ := bcell hb; obtain ⟨c2, f2⟩ := bcell n2; obtain ⟨c3, f3⟩ := bcell n3; have hs := hb.size; (try simp at hs); clear h1 h2; have h1 := hb; have h2 := n2; clear n2 hb))
        have d2 := bT hb h2
        by_cases hv : vcmp xs[k] ys[k] = 0
        · have e3 : (vcmp xs[k] ys[k] != 0) = false := by simp [hv]
          have HV : Hid (rcmp xs ys = rcmp (xs.drop (k + 1)) (ys.drop (k + 1))) := by show _ = _; rw [HR.out, rcmp_step xs ys k l1 l2, if_pos hv]
          clear hv
          go_wp2
          go_roundw
          case rel => exact ⟨k + 1, by omega, by omega, by go_num, HV.out, d2⟩
          case measure => simp [intOf]; omega
        · have e3 : (vcmp xs[k] ys[k] != 0) = true := by simp [hv]
          have HV : Hid (rcmp xs ys = vcmp xs[k] ys[k]) := by show _ = _; rw [HR.out, rcmp_step xs ys k l1 l2, if_neg hv]
          clear hv
          go_wp2
          go_ret
          exact ⟨congrArg (fun z => Ending.returned (.int .i64 z)) HV.out.symm, d2⟩
      · have j1 : ¬ ((k : Int) < (xs.length : Int) ∧ (k : Int) < (ys.length : Int)) := by omega
        have HE : Hid (rcmp xs ys = cmpv xs.length ys.length) := by show _ = _; rw [HR.out, rcmp_end xs ys k hk1 hk2 (by omega)]
        go_wp2_with (go_at_call 19; refine (CompareI_calls _ _ _).mono ?_; rintro e w1 ⟨rfl, rfl⟩)
        go_ret
        exact ⟨congrArg (fun z => Ending.returned (.int .i64 z)) HE.out.symm, hb⟩
end Go.Proofs.Ytafmlbojmmdcdaa
