import Derived.Test.YtkdeilhkobcglaaDoorGOp
namespace Go.Proofs.YtkdeilhkobcglaaDoor
open Go Go.RowKit

theorem bwd_zero (W : Int) (ops : List O2) (j : Nat) : bwd W ops j 0 = (j : Int) := by
  cases j <;> simp [bwd]
theorem bwd_none (W : Int) (ops : List O2) (m : Int) (h : 0 < m) : bwd W ops 0 m = -1 := by simp [bwd, h]
theorem bwd_bad (W : Int) (ops : List O2) (j : Nat) (m : Int) (h : 0 < m) (hj : j < ops.length) (ht : tk ops[j].1 ops[j].2 W < 0) : bwd W ops (j + 1) m = -1 := by
  simp [bwd, h, hj, ht]
theorem bwd_step (W : Int) (ops : List O2) (j : Nat) (m : Int) (h : 0 < m) (hj : j < ops.length) (ht : ¬ tk ops[j].1 ops[j].2 W < 0) : bwd W ops (j + 1) m = bwd W ops j (m - 1 + tk ops[j].1 ops[j].2 W) := by
  simp [bwd, h, hj, ht]

set_option maxHeartbeats 1000000 in
theorem l1Start_calls (ops : List O2) (g off cap : Nat) (W : Int) (k : Nat) (i0 : Int) (w : World) (hg : g < w.heap.size) (hr : OpsAt w g off ops) (b1 : ops.length ≤ 1048576) (hk : k ≤ ops.length) (hi : i0 = (k : Int) - 1) :
    Calls Tryd.prog 77 #[.slice (some ⟨g, off, none⟩) ops.length cap, .int .i64 i0, .int .i64 W] w fun e w' => e = .returned (.int .i64 (bwd W ops k 1)) ∧ Below w.heap.size w w' := by
  have HI : Hid (i0 = (k : Int) - 1) := hi
  clear hi
  go_enter Tryd.func77, Tryd.ntmps77
  go_wp2
  go_loopw [1, 7] (fun i nd wr => ∃ iv m : Int, i = .int .i64 iv ∧ nd = .int .i64 m ∧ -1 ≤ iv ∧ iv < ops.length ∧ 0 ≤ m ∧ m ≤ (ops.length : Int) - iv ∧ bwd W ops k 1 = bwd W ops (iv + 1).toNat m ∧ Below w.heap.size w wr) (fun i _ _ => (intOf i + 1).toNat)
  case atStart =>
    have := HI.out
    exact ⟨i0, 1, rfl, rfl, by omega, by omega, by omega, by omega, by rw [show (i0 + 1).toNat = k by omega], Below.refl _ _⟩
  case round =>
    obtain ⟨iv, m, rfl, rfl, h0, h1, h2, h3, hB, hb⟩ := hrel
    have HB : Hid (bwd W ops k 1 = bwd W ops (iv + 1).toNat m) := hB
    clear hB HI
    by_cases hm : 0 < m
    · by_cases hneg : iv < 0
      · have HE : Hid (bwd W ops k 1 = -1) := by
          show _ = _
          rw [HB.out, show (iv + 1).toNat = 0 by omega, bwd_none W ops m hm]
        clear HB
        go_wp2
        go_ret
        exact ⟨congrArg (fun z => Ending.returned (.int .i64 z)) HE.out.symm, hb⟩
      · obtain ⟨j, rfl⟩ := Int.eq_ofNat_of_zero_le (show 0 ≤ iv by omega)
        have hj : j < ops.length := by omega
        have HB2 : Hid (bwd W ops k 1 = bwd W ops (j + 1) m) := by show _ = _; rw [HB.out, show ((j : Int) + 1).toNat = j + 1 by omega]
        clear HB
        obtain ⟨x0, x1⟩ := (hr.of hg hb).at j hj
        have q1 : g < wr.heap.size := Nat.lt_of_lt_of_le hg hb.size
        have htr := tk_range ops[j].1 ops[j].2 W
        have TK := fun w => l1Takes_calls ops[j].1 ops[j].2 W w
        have hbs := bwd_step W ops j m hm hj
        have hbb := bwd_bad W ops j m hm hj
        generalize tk ops[j].1 ops[j].2 W = t at *
        have HK := hide TK
        have HS := hide hbs
        have HX := hide hbb
        clear TK hbs hbb
        by_cases ht : t < 0
        · go_wp2_with fail
          refine (unhide HK _).mono ?_; rintro e w1 ⟨rfl, hb1⟩
          go_wp2
          go_ret
          exact ⟨congrArg (fun z => Ending.returned (.int .i64 z)) (HB2.out.trans (unhide HX ht)).symm, bT hb hb1⟩
        · go_wp2_with fail
          refine (unhide HK _).mono ?_; rintro e w1 ⟨rfl, hb1⟩
          have d1 := bT hb hb1
          obtain ⟨y0, y1⟩ := (hr.of hg d1).at j hj
          have q2 : g < w1.heap.size := Nat.lt_of_lt_of_le hg d1.size
          go_wp2_with fail
          refine (unhide HK _).mono ?_; rintro e w2 ⟨rfl, hb2⟩
          have d2 := bT d1 hb2
          go_wp2
          go_roundw
          case rel =>
            refine ⟨(j : Int) - 1, m - 1 + t, rfl, rfl, by omega, by omega, by omega, by omega, ?_, d2⟩
            rw [HB2.out, unhide HS ht, show ((j : Int) - 1 + 1).toNat = j by omega]
          case measure => simp [intOf]
    · obtain rfl : m = 0 := by omega
      have HE : Hid (bwd W ops k 1 = iv + 1) := by
        show _ = _
        rw [HB.out, bwd_zero]
        omega
      clear HB
      go_wp2
      go_ret
      exact ⟨congrArg (fun z => Ending.returned (.int .i64 z)) HE.out.symm, hb⟩
end Go.Proofs.YtkdeilhkobcglaaDoor
namespace Go.Proofs.YtkdeilhkobcglaaDoor
open Go Go.RowKit

theorem exOk_false {W : Int} {ops : List O2} (h : W < 0 ∨ ops.length = 0 ∨ 5000 < ops.length) : exOk W ops = false := by
  unfold exOk
  rw [decide_eq_false_iff_not]
  rintro ⟨h1, h2, h3⟩
  have := exOk_len h3
  omega
theorem exOk_bwd {W : Int} {ops : List O2} (h1 : 0 ≤ W) (h2 : ops.length ≤ 5000) : exOk W ops = (bwd W ops ops.length 1 == 0) := by
  unfold exOk
  rw [Bool.eq_iff_iff, decide_eq_true_eq, beq_iff_eq, fwd_iff_bwd]
  exact ⟨fun h => h.2.2, fun h => ⟨h1, h2, h⟩⟩

set_option maxHeartbeats 1000000 in
theorem sExOk_calls (ops : List O2) (g off cap : Nat) (W : Int) (w : World) (hg : g < w.heap.size) (hr : OpsAt w g off ops) (b1 : ops.length ≤ 1048576) :
    Calls Tryd.prog 46 #[.slice (some ⟨g, off, none⟩) ops.length cap, .int .i64 W] w fun e w' => e = .returned (.bool (exOk W ops)) ∧ Below w.heap.size w w' := by
  by_cases c1 : 0 ≤ W
  · by_cases c2 : 1 ≤ (ops.length : Int)
    · by_cases c3 : (ops.length : Int) ≤ 5000
      · have HE : Hid (exOk W ops = (bwd W ops ops.length 1 == 0)) := exOk_bwd c1 (by omega)
        go_enter Tryd.func46, Tryd.ntmps46
        go_wp2_with fail
        refine (l1Start_calls ops g off cap W ops.length _ _ hg hr b1 (Nat.le_refl _) rfl).mono ?_; rintro e w1 ⟨rfl, hb1⟩
        generalize bwd W ops ops.length 1 = z at *
        go_wp2
        go_ret
        exact ⟨congrArg (fun z => Ending.returned (.bool z)) HE.out.symm, hb1⟩
      · have HE : Hid (exOk W ops = false) := exOk_false (by omega)
        go_enter Tryd.func46, Tryd.ntmps46
        go_wp2
        go_ret
        exact ⟨congrArg (fun z => Ending.returned (.bool z)) HE.out.symm, Below.refl _ _⟩
    · have HE : Hid (exOk W ops = false) := exOk_false (by omega)
      go_enter Tryd.func46, Tryd.ntmps46
      go_wp2
      go_ret
      exact ⟨congrArg (fun z => Ending.returned (.bool z)) HE.out.symm, Below.refl _ _⟩
  · have HE : Hid (exOk W ops = false) := exOk_false (by omega)
    go_enter Tryd.func46, Tryd.ntmps46
    go_wp2
    go_ret
    exact ⟨congrArg (fun z => Ending.returned (.bool z)) HE.out.symm, Below.refl _ _⟩

abbrev TTakes (w : World) : Prop := TabAt w 2 [.int .i64 0, .int .i64 0, .int .i64 0, .int .i64 0, .int .i64 2, .int .i64 2, .int .i64 2, .int .i64 1, .int .i64 1]
theorem tk_kind {k n W : Int} (h : ¬ tk k n W < 0) : 1 ≤ k ∧ k ≤ 8 := by
  unfold tk at h
  repeat (split at h <;> try omega)
theorem takes_look {w : World} (h : TTakes w) (k : Nat) (n W : Int) (ht : ¬ tk k n W < 0) : w.cell? ⟨2, k, none⟩ = some (.int .i64 (tk k n W)) := by
  rw [h.cell]
  have e := tk_kind ht
  have e1 : k = 1 ∨ k = 2 ∨ k = 3 ∨ k = 4 ∨ k = 5 ∨ k = 6 ∨ k = 7 ∨ k = 8 := by omega
  unfold tk at ht ⊢
  rcases e1 with rfl | rfl | rfl | rfl | rfl | rfl | rfl | rfl <;> simp at ht ⊢ <;> (split at ht <;> first | assumption | omega)

theorem takes_lookI {w : World} (h : TTakes w) (k n W : Int) (ht : ¬ tk k n W < 0) : w.cell? ⟨2, k.toNat, none⟩ = some (.int .i64 (tk k n W)) := by
  obtain ⟨j, rfl⟩ := Int.eq_ofNat_of_zero_le (show 0 ≤ k by have := tk_kind ht; omega)
  exact takes_look h j n W ht
theorem fwd_drop (W : Int) (ops : List O2) (k h : Nat) (hk : k < ops.length) : fwd W (ops.drop k) h = fwd W (ops[k] :: ops.drop (k + 1)) h := by
  rw [List.drop_eq_getElem_cons hk]
theorem exOk_fwd {W : Int} {ops : List O2} (h1 : 0 ≤ W) (h2 : ops.length ≤ 5000) {r : Option Nat} (h : fwd W ops 0 = r) : exOk W ops = decide (r = some 1) := by
  unfold exOk
  rw [h]
  simp [h1, h2]

set_option maxHeartbeats 1000000 in
theorem ExOk_calls (ops : List O2) (g off cap : Nat) (W : Int) (w : World) (hT : TTakes w) (hg : g < w.heap.size) (hr : OpsAt w g off ops) (b1 : ops.length ≤ 1048576) :
    Calls Tryd.prog 102 #[.slice (some ⟨g, off, none⟩) ops.length cap, .int .i64 W] w fun e w' => e = .returned (.bool (exOk W ops)) ∧ Below w.heap.size w w' := by
  by_cases c3 : 5000 < (ops.length : Int)
  · have HE : Hid (exOk W ops = false) := exOk_false (by omega)
    go_enter Tryd.func102, Tryd.ntmps102
    go_wp2
    go_ret
    exact ⟨congrArg (fun z => Ending.returned (.bool z)) HE.out.symm, Below.refl _ _⟩
  by_cases c1 : W < 0
  · have HE : Hid (exOk W ops = false) := exOk_false (by omega)
    go_enter Tryd.func102, Tryd.ntmps102
    go_wp2
    go_ret
    exact ⟨congrArg (fun z => Ending.returned (.bool z)) HE.out.symm, Below.refl _ _⟩
  go_enter Tryd.func102, Tryd.ntmps102
  go_wp2
  go_loopw [5, 7, 17] (fun hh _ c wr => ∃ k h : Nat, k ≤ ops.length ∧ h ≤ k ∧ c = .int .i64 k ∧ hh = .int .i64 h ∧ fwd W ops 0 = fwd W (ops.drop k) h ∧ Below w.heap.size w wr) (fun _ _ c _ => ops.length - (intOf c).toNat)
  case atStart => exact ⟨0, 0, Nat.zero_le _, Nat.zero_le _, rfl, rfl, by simp, Below.refl _ _⟩
  case round =>
    obtain ⟨k, h, hk, hh, rfl, rfl, hF, hb⟩ := hrel
    have HF : Hid (fwd W ops 0 = fwd W (ops.drop k) h) := hF
    clear hF
    by_cases hlt : k < ops.length
    · obtain ⟨x0, x1⟩ := (hr.of hg hb).at k hlt
      have q1 : g < wr.heap.size := Nat.lt_of_lt_of_le hg hb.size
      have j1 : (k : Int) < (ops.length : Int) := by omega
      have hbad : tk ops[k].1 ops[k].2 W < 0 → exOk W ops = false := fun ht => by
        rw [exOk_fwd (by omega) (by omega) (HF.out.trans (fwd_drop W ops k h hlt))]; simp [fwd, ht]
      have hlow : ¬ tk ops[k].1 ops[k].2 W < 0 → (h : Int) < tk ops[k].1 ops[k].2 W → exOk W ops = false := fun ht hl => by
        rw [exOk_fwd (by omega) (by omega) (HF.out.trans (fwd_drop W ops k h hlt))]; simp [fwd, ht, hl]
      have hgo : ¬ tk ops[k].1 ops[k].2 W < 0 → ¬ (h : Int) < tk ops[k].1 ops[k].2 W → fwd W ops 0 = fwd W (ops.drop (k + 1)) (h + 1 - (tk ops[k].1 ops[k].2 W).toNat) := fun ht hl => by
        rw [HF.out, fwd_drop W ops k h hlt]; simp [fwd, ht, hl]
      have OPOK := fun w => opOk_calls ops[k].1 ops[k].2 W w
      have hkind : ¬ tk ops[k].1 ops[k].2 W < 0 → 1 ≤ ops[k].1 ∧ ops[k].1 ≤ 8 := fun ht => tk_kind ht
      have hlook : ∀ wx : World, TTakes wx → ¬ tk ops[k].1 ops[k].2 W < 0 → wx.cell? ⟨2, (ops[k].1).toNat, none⟩ = some (.int .i64 (tk ops[k].1 ops[k].2 W)) := fun wx hx ht => takes_lookI hx _ _ W ht
      have htr := tk_range ops[k].1 ops[k].2 W
      generalize tk ops[k].1 ops[k].2 W = t at *
      generalize ops[k].1 = K at *
      generalize ops[k].2 = N at *
      have Hbad := hide hbad; have Hlow := hide hlow; have Hgo := hide hgo; have Hop := hide OPOK; have Hkind := hide hkind; have Hlook := hide hlook
      clear hbad hlow hgo OPOK hkind hlook HF
      have hz := hT.size
      by_cases ht : t < 0
      · have e1 : decide (0 ≤ t) = false := by simp; omega
        go_wp2_with fail
        refine (unhide Hop _).mono ?_; rintro e w1 ⟨rfl, hb1⟩
        rw [e1]
        go_wp2
        go_ret
        exact ⟨congrArg (fun z => Ending.returned (.bool z)) (unhide Hbad ht).symm, bT (bA hb _) hb1⟩
      · have e1 : decide (0 ≤ t) = true := by simp; omega
        obtain ⟨hk1, hk8⟩ := unhide Hkind ht
        have k0 : (0 : Int) ≤ K := by omega
        have k9 : K < 9 := by omega
        go_wp2_with fail
        refine (unhide Hop _).mono ?_; rintro e w1 ⟨rfl, hb1⟩
        rw [e1]
        have d1 := bT (bA hb _) hb1
        have hL := unhide Hlook w1 (hT.of d1) ht
        obtain ⟨hc1, hf1⟩ := bcell hb1
        have hs1 : wr.heap.size < w1.heap.size := by have := hb1.size; simp at this; omega
        by_cases hl : (h : Int) < t
        · go_wp2
          go_ret
          exact ⟨congrArg (fun z => Ending.returned (.bool z)) (unhide Hlow ht hl).symm, d1⟩
        · have hw1 := wrap_small (1 - t) (by omega) (by omega)
          have hw2 := wrap_small ((h : Int) + (1 - t)) (by omega) (by omega)
          go_wp2
          go_roundw
          case rel => exact ⟨k + 1, h + 1 - t.toNat, by omega, by omega, by go_num, by congr 1; omega, unhide Hgo ht hl, d1⟩
          case measure => simp [intOf]; omega
    · obtain rfl : k = ops.length := by omega
      have HE : Hid (exOk W ops = ((h : Int) == 1)) := by
        show _ = _
        have := HF.out
        rw [List.drop_length] at this
        rw [exOk_fwd (by omega) (by omega) this]
        simp [fwd]
        rw [Bool.eq_iff_iff]
        simp
        omega
      clear HF
      go_wp2
      go_ret
      exact ⟨congrArg (fun z => Ending.returned (.bool z)) HE.out.symm, hb⟩
end Go.Proofs.YtkdeilhkobcglaaDoor
