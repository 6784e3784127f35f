import Derived.Test.YtafmlbojmmdcdabDoorSOr
import Derived.Deep.RegionHeld3
namespace Go.Proofs.YtafmlbojmmdcdabDoor
open Go Go.RowKit
/-- two Vals as parameters, boxed -/
abbrev two (w : World) (b c : Bool) (n m : Int) : World := (w.alloc (.cells #[.bool b, .int .i64 n] 23)).alloc (.cells #[.bool c, .int .i64 m] 23)
theorem cut_rel {w wx : World} {b c r : Bool} {n m k : Int} {B : Nat} (hS : Std (two w b c n m) wx) (hB : B < wx.heap.size) (h0 : wx.cell? ⟨B, 0, none⟩ = some (.bool r)) (h1 : wx.cell? ⟨B, 1, none⟩ = some (.int .i64 k)) (hlt : w.heap.size + 1 < B) :
    ∃ B', Value.pointer (some ⟨B, 0, none⟩) = .pointer (some ⟨B', 0, none⟩) ∧ Box wx B' r k ∧ w.heap.size + 1 < B' ∧ Std (two w b c n m) wx := ⟨B, rfl, ⟨hB, h0, h1⟩, hlt, hS⟩
theorem Std.low {w0 w : World} (h : Std w0 w) : Below w0.heap.size w0 w := h.2.2
theorem two_low {w wx : World} {b c : Bool} {n m : Int} (hS : Std (two w b c n m) wx) : Below w.heap.size w wx := bT (bA (bA (Below.refl _ _) _) _) hS.low
theorem two_box1 {w wx : World} {b c : Bool} {n m : Int} (hS : Std (two w b c n m) wx) : Box wx w.heap.size b n :=
  Box.of (w := two w b c n m) ⟨by simp; omega, by simp [go_sem], by simp [go_sem]⟩ hS.low
theorem two_box2 {w wx : World} {b c : Bool} {n m : Int} (hS : Std (two w b c n m) wx) : Box wx (w.heap.size + 1) c m :=
  Box.of (w := two w b c n m) ⟨by simp, by simp [go_sem], by simp [go_sem]⟩ hS.low
theorem cut_rel2 {w0 wx : World} {r : Bool} {k : Int} {B : Nat} (hS : Std w0 wx) (hB : B < wx.heap.size) (h0 : wx.cell? ⟨B, 0, none⟩ = some (.bool r)) (h1 : wx.cell? ⟨B, 1, none⟩ = some (.int .i64 k)) :
    ∃ B', Value.pointer (some ⟨B, 0, none⟩) = .pointer (some ⟨B', 0, none⟩) ∧ Box wx B' r k ∧ Std w0 wx := ⟨B, rfl, ⟨hB, h0, h1⟩, hS⟩
set_option maxHeartbeats 1000000 in
theorem lawOr3_calls (b c : Bool) (n m : Int) (w : World) (hTv : TVal w) (hTa : TOr w) :
    Calls Tryd.prog 3 #[.agg #[.bool b, .int .i64 n], .agg #[.bool c, .int .i64 m]] w fun e w' => e = .returned (.bool true) ∧ Below w.heap.size w w' := by
  go_enter Tryd.func3, Tryd.ntmps3
  go_upto_region 1 with fail
  go_cut [5] (fun s wx => ∃ B, s = .pointer (some ⟨B, 0, none⟩) ∧ Box wx B (vB (max (tr b n) (tr c m))) (vI (max (tr b n) (tr c m))) ∧ w.heap.size + 1 < B ∧ Std (two w b c n m) wx)
  case first =>
    have h1 := Below.refl (two w b c n m).heap.size (two w b c n m)
    have h2 := h1
    go_region_held3 (Std (two w b c n m)) (repeat (first | with_reducible assumption | with_reducible exact Std.refl _ | with_reducible refine Std.drew ?_ | with_reducible refine Std.alloc ?_ _ | with_reducible refine Std.setCell ?_ ?_ _ | with_reducible refine Std.call ?_ (by with_reducible assumption) | (simp <;> omega) | omega)) (first | (go_at_call 8; refine (toVal_calls _ _ _).mono ?_; rintro e w1 ⟨rfl, hb⟩; (first | have n3 := bT h2 hb | have n3 := bT (bA h2 _) hb | have n3 := bT (Below.drew h2) hb | have n3 := bT (Below.drew (bA h2 _)) hb | have n3 := bT (bA (Below.drew h2) _) hb); (first | have n2 := bT h1 hb | have n2 := bT (bA h1 _) hb | have n2 := bT (Below.drew h1) hb | have n2 := bT (Below.drew (bA h1 _)) hb | have n2 := bT (bA (Below.drew h1) _) hb); obtain ⟨c1, f1⟩ := bcell hb; obtain ⟨c2, f2⟩ := bcell n2; obtain ⟨c3, f3⟩ := bcell n3; have hs := hb.size; (try simp at hs); clear h1 h2; have h1 := hb; have h2 := n2; clear n2 hb) | (go_at_call 7; refine (sOr3_calls _ _ _ _ _).mono ?_; rintro e w1 ⟨rfl, hb⟩; (first | have n3 := bT h2 hb | have n3 := bT (bA h2 _) hb | have n3 := bT (Below.drew h2) hb | have n3 := bT (Below.drew (bA h2 _)) hb | have n3 := bT (bA (Below.drew h2) _) hb); (first | have n2 := bT h1 hb | have n2 := bT (bA h1 _) hb | have n2 := bT (Below.drew h1) hb | have n2 := bT (Below.drew (bA h1 _)) hb | have n2 := bT (bA (Below.drew h1) _) hb); obtain ⟨c1, f1⟩ := bcell hb; obtain ⟨c2, f2⟩ := bcell n2; obtain ⟨c3, f3⟩ := bcell n3; have hs := hb.size; (try simp at hs); clear h1 h2; have h1 := hb; have h2 := n2; clear n2 hb))
    all_goals
      go_wp2_with fail
      go_meet
      refine cut_rel ?_ ?_ ?_ ?_ ?_
      · (repeat (first | with_reducible assumption | with_reducible exact Std.refl _ | with_reducible refine Std.drew ?_ | with_reducible refine Std.alloc ?_ _ | with_reducible refine Std.setCell ?_ ?_ _ | with_reducible refine Std.call ?_ (by with_reducible assumption) | (simp <;> omega) | omega))
      · first | omega | (simp [go_sem, *] <;> omega)
      · simp [go_sem, *]
      · simp [go_sem, *]
      · omega
  case rest =>
    obtain ⟨B, rfl, hB, hlt, hS⟩ := hcut
    have d0 := two_low hS
    have hTv1 := hTv.of d0
    have hTa1 := hTa.of d0
    have hbool : ((vB (max (tr b n) (tr c m)) == vB (max (tr b n) (tr c m))) && (vI (max (tr b n) (tr c m)) == vI (max (tr b n) (tr c m)))) = true := by simp
    obtain ⟨p1, a0, a1⟩ := two_box1 hS
    obtain ⟨p2, b0, b1⟩ := two_box2 hS
    have hB0 := hB
    obtain ⟨p3, q0, q1⟩ := hB
    clear hS hlt hTv hTa
    go_upto_region 2 with fail
    go_cut [6] (fun s wx => ∃ B', s = .pointer (some ⟨B', 0, none⟩) ∧ Box wx B' (vB (max (tr b n) (tr c m))) (vI (max (tr b n) (tr c m))) ∧ Std wc wx)
    case first =>
      have h1 := Below.refl wc.heap.size wc
      have h2 := h1
      go_region_held3 (Std wc) (repeat (first | with_reducible assumption | with_reducible exact Std.refl _ | with_reducible refine Std.drew ?_ | with_reducible refine Std.alloc ?_ _ | with_reducible refine Std.setCell ?_ ?_ _ | with_reducible refine Std.call ?_ (by with_reducible assumption) | (simp <;> omega) | omega)) (first | (go_at_call 8; refine (toVal_calls _ _ _).mono ?_; rintro e w1 ⟨rfl, hb⟩; (first | have n3 := bT h2 hb | have n3 := bT (bA h2 _) hb | have n3 := bT (Below.drew h2) hb | have n3 := bT (Below.drew (bA h2 _)) hb | have n3 := bT (bA (Below.drew h2) _) hb); (first | have n2 := bT h1 hb | have n2 := bT (bA h1 _) hb | have n2 := bT (Below.drew h1) hb | have n2 := bT (Below.drew (bA h1 _)) hb | have n2 := bT (bA (Below.drew h1) _) hb); obtain ⟨c1, f1⟩ := bcell hb; obtain ⟨c2, f2⟩ := bcell n2; obtain ⟨c3, f3⟩ := bcell n3; have hs := hb.size; (try simp at hs); clear h1 h2; have h1 := hb; have h2 := n2; clear n2 hb) | (go_at_call 9; refine (Or3_calls _ _ _ _ _ (by refine hTv1.of (Std.low (w0 := wc) ?_); (repeat (first | with_reducible assumption | with_reducible exact Std.refl _ | with_reducible refine Std.drew ?_ | with_reducible refine Std.alloc ?_ _ | with_reducible refine Std.setCell ?_ ?_ _ | with_reducible refine Std.call ?_ (by with_reducible assumption) | (simp <;> omega) | omega))) (by refine hTa1.of (Std.low (w0 := wc) ?_); (repeat (first | with_reducible assumption | with_reducible exact Std.refl _ | with_reducible refine Std.drew ?_ | with_reducible refine Std.alloc ?_ _ | with_reducible refine Std.setCell ?_ ?_ _ | with_reducible refine Std.call ?_ (by with_reducible assumption) | (simp <;> omega) | omega)))).mono ?_; rintro e w1 ⟨rfl, hb⟩; (first | have n3 := bT h2 hb | have n3 := bT (bA h2 _) hb | have n3 := bT (Below.drew h2) hb | have n3 := bT (Below.drew (bA h2 _)) hb | have n3 := bT (bA (Below.drew h2) _) hb); (first | have n2 := bT h1 hb | have n2 := bT (bA h1 _) hb | have n2 := bT (Below.drew h1) hb | have n2 := bT (Below.drew (bA h1 _)) hb | have n2 := bT (bA (Below.drew h1) _) hb); obtain ⟨c1, f1⟩ := bcell hb; obtain ⟨c2, f2⟩ := bcell n2; obtain ⟨c3, f3⟩ := bcell n3; have hs := hb.size; (try simp at hs); clear h1 h2; have h1 := hb; have h2 := n2; clear n2 hb))
      all_goals
        go_wp2_with fail
        go_meet
        refine cut_rel2 ?_ ?_ ?_ ?_
        · (repeat (first | with_reducible assumption | with_reducible exact Std.refl _ | with_reducible refine Std.drew ?_ | with_reducible refine Std.alloc ?_ _ | with_reducible refine Std.setCell ?_ ?_ _ | with_reducible refine Std.call ?_ (by with_reducible assumption) | (simp <;> omega) | omega))
        · first | omega | (simp [go_sem, *] <;> omega)
        · simp [go_sem, *]
        · simp [go_sem, *]
    case rest =>
      obtain ⟨B', rfl, hB', hS'⟩ := hcut
      obtain ⟨p4, s0, s1⟩ := hB'
      obtain ⟨p5, t0, t1⟩ := hB0.of hS'.low
      have d1 := d0.trans (hS'.low.mono d0.size)
      go_wp2_with fail
      refine (eqVal_calls _ _ _ _ _).mono ?_; rintro e w5 ⟨rfl, hb5⟩
      rw [hbool]
      go_wp2
      go_ret
      exact ⟨rfl, d1.trans (hb5.mono d1.size)⟩
end Go.Proofs.YtafmlbojmmdcdabDoor
