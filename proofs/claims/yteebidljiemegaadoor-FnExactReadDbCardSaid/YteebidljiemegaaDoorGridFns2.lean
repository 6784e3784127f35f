import Derived.Test.YteebidljiemegaaDoorQ17
import Derived.Deep.RegionHeld3
import Derived.Deep.DeepCutAuto
namespace Go.Proofs.YteebidljiemegaaDoor
open Go Go.RowKit
set_option maxHeartbeats 1000000 in
theorem eqValSS_calls (rs qs : List R3) (G off cap G' off' cap' : Nat) (w : World) (hG : G < w.heap.size) (hG' : G' < w.heap.size) (hx : GridAt w G off rs) (hy : GridAt w G' off' qs) (hrx : RowsOk w rs) (hry : RowsOk w qs) (he : rs.map (fun r : R3 => r.2.2) = qs.map (fun r : R3 => r.2.2)) (b1 : rs.length ≤ 1048576) (b2 : ∀ r ∈ rs, r.2.2.length ≤ 1048576) :
    Calls Tryd.prog 50 #[.slice (some ⟨G, off, none⟩) rs.length cap, .slice (some ⟨G', off', none⟩) qs.length cap'] w fun e w' => e = .returned (.bool true) ∧ Below w.heap.size w w' := by
  have hlen : rs.length = qs.length := by simpa using congrArg List.length he
  rw [← hlen]
  have HL := hide hlen
  clear hlen
  have e0 : ((rs.length : Int) != (rs.length : Int)) = false := by simp
  go_enter Tryd.func50, Tryd.ntmps50
  go_wp2
  go_loopw [5] (fun c wr => ∃ k : Nat, k ≤ rs.length ∧ c = .int .i64 k ∧ Below w.heap.size w wr) (fun c _ => rs.length - (intOf c).toNat)
  case atStart => exact ⟨0, Nat.zero_le _, rfl, Below.refl _ _⟩
  case round =>
    obtain ⟨k, hk1, rfl, hb⟩ := hrel
    by_cases l1 : k < rs.length
    · have l2 : k < qs.length := by rw [← unhide HL]; exact l1
      have x0 := (hx.of hG hb) k rs[k] (by simp [l1])
      have y0 := (hy.of hG' hb) k qs[k] (by simp [l2])
      have hm1 : rs[k] ∈ rs := List.getElem_mem l1
      have hm2 : qs[k] ∈ qs := List.getElem_mem l2
      have ex := (hrx.of (Below.drew hb)) _ hm1
      have ey := (hry.of (Below.drew hb)) _ hm2
      have bx := b2 _ hm1
      have exy : qs[k].2.2 = rs[k].2.2 := by
        have := congrArg (fun l => l[k]?) he
        simp [l1, l2] at this
        exact this.symm
      unfold rv at x0 y0
      generalize rs[k] = r at *
      generalize qs[k] = q at *
      obtain ⟨rg, rc, rx⟩ := r
      obtain ⟨qg, qc, qx⟩ := q
      simp only at exy
      subst exy
      have j1 : (k : Int) < (rs.length : Int) := by omega
      have q1 : G < wr.heap.size := Nat.lt_of_lt_of_le hG hb.size
      have q2 : G' < wr.heap.size := Nat.lt_of_lt_of_le hG' hb.size
      have EQ := fun w h1 h2 h3 h4 => eqValS_calls qx rg 0 rc qg 0 qc w h1 h2 h3 h4 bx
      have HEQ := hide EQ
      clear EQ hm1 hm2
      simp only at x0 y0 ex ey
      have HEX := hide ex; have HEY := hide ey
      clear ex ey bx
      go_upto_region 6 with fail
      have h1 := Below.refl wr.heap.size wr
      have h2 := h1
      go_region_held3 (Std wr) (repeat (first | with_reducible assumption | with_reducible exact Std.refl _ | with_reducible refine Std.drew ?_ | with_reducible refine Std.alloc ?_ _ | with_reducible refine Std.setCell ?_ ?_ _ | with_reducible refine Std.call ?_ (by with_reducible assumption) | (simp <;> omega) | omega)) (first | (go_at_call 63; refine (unhide HEQ _ (unhide HEX).1.size (unhide HEY).1.size (unhide HEX).1.held (unhide HEY).1.held).mono ?_; rintro e w1 ⟨rfl, hb⟩; (first | have n3 := bT h2 hb | have n3 := bT (bA h2 _) hb | have n3 := bT (Below.drew h2) hb | have n3 := bT (Below.drew (bA h2 _)) hb | have n3 := bT (bA (Below.drew h2) _) hb); (first | have n2 := bT h1 hb | have n2 := bT (bA h1 _) hb | have n2 := bT (Below.drew h1) hb | have n2 := bT (Below.drew (bA h1 _)) hb | have n2 := bT (bA (Below.drew h1) _) hb); obtain ⟨c1, f1⟩ := bcell hb; obtain ⟨c2, f2⟩ := bcell n2; obtain ⟨c3, f3⟩ := bcell n3; have hs := hb.size; (try simp at hs); clear h1 h2; have h1 := hb; have h2 := n2; clear n2 hb))
      have d2 := bT hb h2
      go_wp2
      go_roundw
      case rel => exact ⟨k + 1, by omega, by go_num, d2⟩
      case measure => simp [intOf]; omega
    · go_wp2
      go_ret
      exact ⟨rfl, hb⟩
end Go.Proofs.YteebidljiemegaaDoor
