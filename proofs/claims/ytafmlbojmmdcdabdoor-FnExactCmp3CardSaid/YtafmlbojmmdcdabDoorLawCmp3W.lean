import Derived.Test.YtafmlbojmmdcdabDoorCmp3
import Derived.Test.YtafmlbojmmdcdabDoorTwo
namespace Go.Proofs.YtafmlbojmmdcdabDoor
open Go Go.RowKit
set_option maxHeartbeats 1000000 in
theorem lawCmp3_calls (op : Int) (b c : Bool) (n m : Int) (w : World) (hTv : TVal w) (hTa : TCmp w) :
    Calls Tryd.prog 4 #[.int .i64 op, .agg #[.bool b, .int .i64 n], .agg #[.bool c, .int .i64 m]] w fun e w' => e = .returned (.bool true) ∧ Below w.heap.size w w' := by
  go_enter Tryd.func4, Tryd.ntmps4
  go_upto_region 1 with fail
  go_cut [7] (fun s wx => ∃ B, s = .pointer (some ⟨B, 0, none⟩) ∧ Box wx B (vB (cmp3 op b c n m)) (vI (cmp3 op b c n m)) ∧ w.heap.size + 1 < B ∧ Std (two w b c n m) wx)
  case first =>
    have h1 := Below.refl (two w b c n m).heap.size (two w b c n m)
    have h2 := h1
    go_region_held3 (Std (two w b c n m)) (repeat (first | with_reducible assumption | with_reducible exact Std.refl _ | with_reducible refine Std.drew ?_ | with_reducible refine Std.alloc ?_ _ | with_reducible refine Std.setCell ?_ ?_ _ | with_reducible refine Std.call ?_ (by with_reducible assumption) | (simp <;> omega) | omega)) (first | (go_at_call 8; refine (toVal_calls _ _ _).mono ?_; rintro e w1 ⟨rfl, hb⟩; (first | have n3 := bT h2 hb | have n3 := bT (bA h2 _) hb | have n3 := bT (Below.drew h2) hb | have n3 := bT (Below.drew (bA h2 _)) hb | have n3 := bT (bA (Below.drew h2) _) hb); (first | have n2 := bT h1 hb | have n2 := bT (bA h1 _) hb | have n2 := bT (Below.drew h1) hb | have n2 := bT (Below.drew (bA h1 _)) hb | have n2 := bT (bA (Below.drew h1) _) hb); obtain ⟨c1, f1⟩ := bcell hb; obtain ⟨c2, f2⟩ := bcell n2; obtain ⟨c3, f3⟩ := bcell n3; have hs := hb.size; (try simp at hs); clear h1 h2; have h1 := hb; have h2 := n2; clear n2 hb) | (go_at_call 11; refine (sCmp3_calls _ _ _ _ _ _).mono ?_; rintro e w1 ⟨rfl, hb⟩; (first | have n3 := bT h2 hb | have n3 := bT (bA h2 _) hb | have n3 := bT (Below.drew h2) hb | have n3 := bT (Below.drew (bA h2 _)) hb | have n3 := bT (bA (Below.drew h2) _) hb); (first | have n2 := bT h1 hb | have n2 := bT (bA h1 _) hb | have n2 := bT (Below.drew h1) hb | have n2 := bT (Below.drew (bA h1 _)) hb | have n2 := bT (bA (Below.drew h1) _) hb); obtain ⟨c1, f1⟩ := bcell hb; obtain ⟨c2, f2⟩ := bcell n2; obtain ⟨c3, f3⟩ := bcell n3; have hs := hb.size; (try simp at hs); clear h1 h2; have h1 := hb; have h2 := n2; clear n2 hb))
    all_goals
      go_wp2_with fail
      go_meet
      refine cut_rel ?_ ?_ ?_ ?_ ?_
      · (repeat (first | with_reducible assumption | with_reducible exact Std.refl _ | with_reducible refine Std.drew ?_ | with_reducible refine Std.alloc ?_ _ | with_reducible refine Std.setCell ?_ ?_ _ | with_reducible refine Std.call ?_ (by with_reducible assumption) | (simp <;> omega) | omega))
      · first | omega | (simp [go_sem, *] <;> omega)
      · simp [go_sem, *]
      · simp [go_sem, *]
      · omega
  case rest =>
    obtain ⟨B, rfl, hB, hlt, hS⟩ := hcut
    have d0 := two_low hS
    have hTv1 := hTv.of d0
    have hTa1 := hTa.of d0
    have hbool : ((vB (cmp3 op b c n m) == vB (cmp3 op b c n m)) && (vI (cmp3 op b c n m) == vI (cmp3 op b c n m))) = true := by simp
    obtain ⟨p1, a0, a1⟩ := two_box1 hS
    obtain ⟨p2, b0, b1⟩ := two_box2 hS
    have hB0 := hB
    obtain ⟨p3, q0, q1⟩ := hB
    clear hS hlt hTv hTa
    go_upto_region 2 with fail
    go_cut [8] (fun s wx => ∃ B', s = .pointer (some ⟨B', 0, none⟩) ∧ Box wx B' (vB (cmp3 op b c n m)) (vI (cmp3 op b c n m)) ∧ Std wc wx)
    case first =>
      have h1 := Below.refl wc.heap.size wc
      have h2 := h1
      go_region_held3 (Std wc) (repeat (first | with_reducible assumption | with_reducible exact Std.refl _ | with_reducible refine Std.drew ?_ | with_reducible refine Std.alloc ?_ _ | with_reducible refine Std.setCell ?_ ?_ _ | with_reducible refine Std.call ?_ (by with_reducible assumption) | (simp <;> omega) | omega)) (first | (go_at_call 8; refine (toVal_calls _ _ _).mono ?_; rintro e w1 ⟨rfl, hb⟩; (first | have n3 := bT h2 hb | have n3 := bT (bA h2 _) hb | have n3 := bT (Below.drew h2) hb | have n3 := bT (Below.drew (bA h2 _)) hb | have n3 := bT (bA (Below.drew h2) _) hb); (first | have n2 := bT h1 hb | have n2 := bT (bA h1 _) hb | have n2 := bT (Below.drew h1) hb | have n2 := bT (Below.drew (bA h1 _)) hb | have n2 := bT (bA (Below.drew h1) _) hb); obtain ⟨c1, f1⟩ := bcell hb; obtain ⟨c2, f2⟩ := bcell n2; obtain ⟨c3, f3⟩ := bcell n3; have hs := hb.size; (try simp at hs); clear h1 h2; have h1 := hb; have h2 := n2; clear n2 hb) | (go_at_call 12; refine (Cmp3_calls _ _ _ _ _ _ (by refine hTv1.of (Std.low (w0 := wc) ?_); (repeat (first | with_reducible assumption | with_reducible exact Std.refl _ | with_reducible refine Std.drew ?_ | with_reducible refine Std.alloc ?_ _ | with_reducible refine Std.setCell ?_ ?_ _ | with_reducible refine Std.call ?_ (by with_reducible assumption) | (simp <;> omega) | omega))) (by refine hTa1.of (Std.low (w0 := wc) ?_); (repeat (first | with_reducible assumption | with_reducible exact Std.refl _ | with_reducible refine Std.drew ?_ | with_reducible refine Std.alloc ?_ _ | with_reducible refine Std.setCell ?_ ?_ _ | with_reducible refine Std.call ?_ (by with_reducible assumption) | (simp <;> omega) | omega)))).mono ?_; rintro e w1 ⟨rfl, hb⟩; (first | have n3 := bT h2 hb | have n3 := bT (bA h2 _) hb | have n3 := bT (Below.drew h2) hb | have n3 := bT (Below.drew (bA h2 _)) hb | have n3 := bT (bA (Below.drew h2) _) hb); (first | have n2 := bT h1 hb | have n2 := bT (bA h1 _) hb | have n2 := bT (Below.drew h1) hb | have n2 := bT (Below.drew (bA h1 _)) hb | have n2 := bT (bA (Below.drew h1) _) hb); obtain ⟨c1, f1⟩ := bcell hb; obtain ⟨c2, f2⟩ := bcell n2; obtain ⟨c3, f3⟩ := bcell n3; have hs := hb.size; (try simp at hs); clear h1 h2; have h1 := hb; have h2 := n2; clear n2 hb))
      all_goals
        go_wp2_with fail
        go_meet
        refine cut_rel2 ?_ ?_ ?_ ?_
        · (repeat (first | with_reducible assumption | with_reducible exact Std.refl _ | with_reducible refine Std.drew ?_ | with_reducible refine Std.alloc ?_ _ | with_reducible refine Std.setCell ?_ ?_ _ | with_reducible refine Std.call ?_ (by with_reducible assumption) | (simp <;> omega) | omega))
        · first | omega | (simp [go_sem, *] <;> omega)
        · simp [go_sem, *]
        · simp [go_sem, *]
    case rest =>
      obtain ⟨B', rfl, hB', hS'⟩ := hcut
      obtain ⟨p4, s0, s1⟩ := hB'
      obtain ⟨p5, t0, t1⟩ := hB0.of hS'.low
      have d1 := d0.trans (hS'.low.mono d0.size)
      go_wp2_with fail
      refine (eqVal_calls _ _ _ _ _).mono ?_; rintro e w5 ⟨rfl, hb5⟩
      rw [hbool]
      go_wp2
      go_ret
      exact ⟨rfl, d1.trans (hb5.mono d1.size)⟩
end Go.Proofs.YtafmlbojmmdcdabDoor
