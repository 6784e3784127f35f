import Derived.Test.YtafmlbojmmdcdaaLwVal
import Derived.Test.YtafmlbojmmdcdaaSortMath
import Derived.Test.YtafmlbojmmdcdaaGridKit
import Derived.Test.YtafmlbojmmdcdaaSorted3
import Derived.BigQuiet
namespace Go.Proofs.Ytafmlbojmmdcdaa
open Go Go.RowKit
theorem alike_take (rows : List (List V2)) (y : List V2) (k : Nat) (h : k < rows.length) : alike (rows.take (k + 1)) y = alike (rows.take k) y + (if rcmp rows[k] y = 0 then 1 else 0) := by
  unfold alike
  rw [take_snoc rows k h, List.countP_append]
  simp [List.countP_cons]
theorem alike_le (rows : List (List V2)) (y : List V2) : alike rows y ≤ rows.length := List.countP_le_length
set_option maxHeartbeats 1000000 in
theorem lwCount_calls (rs : List R3) (ys : List V2) (G off cap g' off' cap' : Nat) (w : World) (hG : G < w.heap.size) (hg' : g' < w.heap.size) (hx : GridAt w G off rs) (hrx : RowsOk w rs) (hy : RowAt w g' off' ys) (hc' : ys.length ≤ cap') (b1 : rs.length ≤ 1048576) (b2 : ∀ r ∈ rs, r.2.2.length ≤ 1048576) (b3 : ys.length ≤ 1048576) :
    Calls Try.prog 6 #[.slice (some ⟨G, off, none⟩) rs.length cap, .slice (some ⟨g', off', none⟩) ys.length cap'] w fun e w' => e = .returned (.int .i64 (alike (rs.map kR) ys : Nat)) ∧ Below w.heap.size w w' := by
  go_enter Try.func6, Try.ntmps6
  go_wp2
  go_loopw [5, 6] (fun s c wr => ∃ k : Nat, k ≤ rs.length ∧ c = .int .i64 k ∧ s = .int .i64 (alike ((rs.map kR).take k) ys : Nat) ∧ Below w.heap.size w wr) (fun _ c _ => rs.length - (intOf c).toNat)
  case atStart => exact ⟨0, Nat.zero_le _, rfl, rfl, Below.refl _ _⟩
  case round =>
    obtain ⟨k, hk1, rfl, rfl, hb⟩ := hrel
    by_cases l1 : k < rs.length
    · have x0 := (hx.of hG hb) k rs[k] (by simp [l1])
      have hm1 : rs[k] ∈ rs := List.getElem_mem l1
      have ex := (hrx.of hb) _ hm1
      have ey := hy.of hg' hb
      have bx := b2 _ hm1
      have hat := alike_take (rs.map kR) ys k (by simpa using l1)
      have hkr : (rs.map kR)[k]'(by simpa using l1) = rs[k].2.2 := by simp
      rw [hkr] at hat
      have hal := alike_le ((rs.map kR).take k) ys
      simp at hal
      unfold rv at x0
      generalize rs[k] = r at *
      obtain ⟨rg, rc, rx⟩ := r
      simp only at x0 ex bx hat
      have j1 : (k : Int) < (rs.length : Int) := by omega
      have q1 : G < wr.heap.size := Nat.lt_of_lt_of_le hG hb.size
      have q2 : g' < wr.heap.size := Nat.lt_of_lt_of_le hg' hb.size
      have HC := hide (sRowCmp_calls rx ys rg 0 rc g' off' cap' wr ex.1.size q2 ex.1.held ey ex.2 hc' bx b3)
      have HA := hide hat
      clear ex ey bx hat hkr hm1
      generalize alike ((rs.map kR).take k) ys = A at *
      go_wp2_with fail
      refine (unhide HC).mono ?_; rintro e w1 ⟨rfl, hb1⟩
      clear HC
      have d1 := bT hb hb1
      by_cases hz : rcmp rx ys = 0
      · have i1 : (rcmp rx ys == 0) = true := by simp [hz]
        have HA2 : Hid (alike ((rs.map kR).take (k + 1)) ys = A + 1) := by show _ = _; rw [unhide HA, if_pos hz]
        clear hz
        go_wp2
        go_roundw
        case rel => exact ⟨k + 1, by omega, by go_num, by rw [unhide HA2]; go_num, d1⟩
        case measure => simp [intOf]; omega
      · have i1 : (rcmp rx ys == 0) = false := by simp [hz]
        have HA2 : Hid (alike ((rs.map kR).take (k + 1)) ys = A) := by show _ = _; rw [unhide HA, if_neg hz]; rfl
        clear hz
        go_wp2
        go_roundw
        case rel => exact ⟨k + 1, by omega, by go_num, by rw [unhide HA2], d1⟩
        case measure => simp [intOf]; omega
    · obtain rfl : k = rs.length := by omega
      rw [List.take_of_length_le (by simp)]
      go_wp2
      go_ret
      exact ⟨rfl, hb⟩
set_option maxHeartbeats 1000000 in
theorem lwSameRows_calls (rs qs : List R3) (G off cap G' off' cap' : Nat) (w : World) (hG : G < w.heap.size) (hG' : G' < w.heap.size) (hx : GridAt w G off rs) (hy : GridAt w G' off' qs) (hrx : RowsOk w rs) (hry : RowsOk w qs) (he : rs.map kR = qs.map kR) (b1 : rs.length ≤ 1048576) (b2 : ∀ r ∈ rs, r.2.2.length ≤ 1048576) :
    Calls Try.prog 9 #[.slice (some ⟨G, off, none⟩) rs.length cap, .slice (some ⟨G', off', none⟩) qs.length cap'] w fun e w' => e = .returned (.bool true) ∧ Below w.heap.size w w' := by
  have hlen : rs.length = qs.length := by simpa using congrArg List.length he
  rw [← hlen]
  have HL := hide hlen
  clear hlen
  have e0 : ((rs.length : Int) != (rs.length : Int)) = false := by simp
  go_enter Try.func9, Try.ntmps9
  go_wp2
  go_loopw [5, 6] (fun c _ wr => ∃ k : Nat, k ≤ rs.length ∧ c = .int .i64 k ∧ Below w.heap.size w wr) (fun c _ _ => rs.length - (intOf c).toNat)
  case atStart => exact ⟨0, Nat.zero_le _, rfl, Below.refl _ _⟩
  case round =>
    obtain ⟨k, hk1, rfl, hb⟩ := hrel
    by_cases l1 : k < rs.length
    · have l2 : k < qs.length := by rw [← unhide HL]; exact l1
      have x0 := (hx.of hG hb) k rs[k] (by simp [l1])
      have y0 := (hy.of hG' hb) k qs[k] (by simp [l2])
      have hm1 : rs[k] ∈ rs := List.getElem_mem l1
      have hm2 : qs[k] ∈ qs := List.getElem_mem l2
      have ex := (hrx.of hb) _ hm1
      have ey := (hry.of hb) _ hm2
      have bx := b2 _ hm1
      have exy : qs[k].2.2 = rs[k].2.2 := by
        have := congrArg (fun l => l[k]?) he
        simp [l1, l2, kR] at this
        exact this.symm
      unfold rv at x0 y0
      generalize rs[k] = r at *
      generalize qs[k] = q at *
      obtain ⟨rg, rc, rx⟩ := r
      obtain ⟨qg, qc, qx⟩ := q
      simp only at exy
      subst exy
      have j1 : (k : Int) < (rs.length : Int) := by omega
      have q1 : G < wr.heap.size := Nat.lt_of_lt_of_le hG hb.size
      have q2 : G' < wr.heap.size := Nat.lt_of_lt_of_le hG' hb.size
      have e1 : ((qx.length : Int) != (qx.length : Int)) = false := by simp
      have HEX := hide ex; have HEY := hide ey
      clear ex ey hm1 hm2
      go_wp2_with fail
      rename World => wo
      go_quiet (fail)
      go_wp2
      go_loopw [6] (fun c w2 => ∃ j : Nat, j ≤ qx.length ∧ c = .int .i64 j ∧ Below wo.heap.size wo w2) (fun c _ => qx.length - (intOf c).toNat)
      case atStart => exact ⟨0, Nat.zero_le _, rfl, below_drewN (Below.refl _ _) _⟩
      case round =>
        obtain ⟨j, hj1, rfl, hb2⟩ := hrel
        have xG : wr.cell? ⟨G, off + k, none⟩ = some (.slice (some ⟨rg, 0, none⟩) qx.length rc) := (hb2.cell (p := ⟨G, off + k, none⟩) q1).trans x0
        have yG : wr.cell? ⟨G', off' + k, none⟩ = some (.slice (some ⟨qg, 0, none⟩) qx.length qc) := (hb2.cell (p := ⟨G', off' + k, none⟩) q2).trans y0
        have q3 : G < wr.heap.size := Nat.lt_of_lt_of_le q1 hb2.size
        have q4 : G' < wr.heap.size := Nat.lt_of_lt_of_le q2 hb2.size
        by_cases l3 : j < qx.length
        · have r1 := (unhide HEX).1.of hb2
          have r2 := (unhide HEY).1.of hb2
          obtain ⟨a0, a1⟩ := RowAt.at r1.held j l3
          obtain ⟨c0, c1⟩ := RowAt.at r2.held j l3
          simp only [Nat.zero_add] at a0 a1 c0 c1
          have q5 := r1.size
          have q6 := r2.size
          have j3 : (j : Int) < (qx.length : Int) := by omega
          have hbool : ((qx[j].1 == qx[j].1) && (qx[j].2 == qx[j].2)) = true := by simp
          clear r1 r2 x0 y0
          go_upto_region 11 with fail
          have h1 := Below.refl wr.heap.size wr
          have h2 := h1
          go_region_held3 (Std wr) (repeat (first | with_reducible assumption | with_reducible exact Std.refl _ | with_reducible refine Std.drew ?_ | with_reducible refine Std.alloc ?_ _ | with_reducible refine Std.setCell ?_ ?_ _ | with_reducible refine Std.call ?_ (by with_reducible assumption) | (simp <;> omega) | omega)) (first | (go_at_call 21; refine (lwSameVal_calls _ _ _ _ _).mono ?_; rintro e w1 ⟨rfl, hb⟩; (first | have n3 := bT h2 hb | have n3 := bT (bA h2 _) hb | have n3 := bT (Below.drew h2) hb | have n3 := bT (Below.drew (bA h2 _)) hb | have n3 := bT (bA (Below.drew h2) _) hb); (first | have n2 := bT h1 hb | have n2 := bT (bA h1 _) hb | have n2 := bT (Below.drew h1) hb | have n2 := bT (Below.drew (bA h1 _)) hb | have n2 := bT (bA (Below.drew h1) _) hb); obtain ⟨c1, f1⟩ := bcell hb; obtain ⟨c2, f2⟩ := bcell n2; obtain ⟨c3, f3⟩ := bcell n3; have hs := hb.size; (try simp at hs); clear h1 h2; have h1 := hb; have h2 := n2; clear n2 hb))
          have d2 := bT hb2 h2
          go_wp2
          go_roundw
          case rel => exact ⟨j + 1, by omega, by go_num, d2⟩
          case measure => simp [intOf]; omega
        · have j3 : ¬ (j : Int) < (qx.length : Int) := by omega
          clear x0 y0
          have d2 := bT hb hb2
          go_wp2
          go_roundw
          case rel => exact ⟨k + 1, by omega, by go_num, d2⟩
          case measure => simp [intOf]; omega
    · go_wp2
      go_ret
      exact ⟨rfl, hb⟩
end Go.Proofs.Ytafmlbojmmdcdaa
