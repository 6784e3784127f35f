import Derived.Test.YtafmlbojmmdcdaaDoorL1At3
import Derived.Test.YtafmlbojmmdcdaaDoorRunEx
namespace Go.Proofs.YtafmlbojmmdcdaaDoor
open Go Go.RowKit
/-- the value of an expression -/
def evx (row : List V2) (ops : List O2) : V2 := if exOk row.length ops = true then (stk row ops ops.length).getD 0 (false, 0) else (true, 0)

set_option maxHeartbeats 1000000 in
theorem sEvalEx_calls (ops : List O2) (row : List V2) (g off cap gr offr capr : Nat) (w : World) (hg : g < w.heap.size) (hr : OpsAt w g off ops) (hgr : gr < w.heap.size) (hrr : RowAt w gr offr row) (b1 : ops.length ≤ 1048576) :
    Calls Tryd.prog 16 #[.slice (some ⟨g, off, none⟩) ops.length cap, .slice (some ⟨gr, offr, none⟩) row.length capr] w fun e w' => e = .returned (.tuple #[.agg #[.bool (evx row ops).1, .int .i64 (evx row ops).2], .bool (exOk row.length ops)]) ∧ Below w.heap.size w w' := by
  have q1 : g < w.heap.size + 1 := by omega
  cases hE : exOk row.length ops
  · have HV : Hid (evx row ops = (true, 0)) := by show _ = _; simp [evx, hE]
    go_enter Tryd.func16, Tryd.ntmps16
    go_wp2_with fail
    refine (sExOk_calls ops g off cap row.length _ (by simp; omega) (hr.of hg (bA (Below.refl _ _) _)) b1).mono ?_; rintro e w1 ⟨rfl, hb1⟩
    rw [hE]
    have d1 := bT (bA (Below.refl w.heap.size w) _) hb1
    obtain ⟨hc1, hf1⟩ := bcell hb1
    have s1 : w.heap.size < w1.heap.size := by have := hb1.size; simp at this; omega
    go_wp2_with fail
    refine (l1Val_calls _ (by omega) _).mono ?_; rintro e w2 ⟨rfl, hb2⟩
    obtain ⟨hc2, hf2⟩ := bcell hb2
    go_wp2
    refine bodyPost_ret (v := .tuple #[.agg #[.bool (true, (0 : Int)).1, .int .i64 (true, (0 : Int)).2], .bool false]) ?_ rfl ⟨by rw [HV.out], ?_⟩
    · simp [results, Tryd.results16, go_sem, hc2, hc1, s1, vB, vI]
    · exact ((bT d1 hb2).setCell (by simp) _).setCell (by simp) _
  · have hEE := hE
    simp only [exOk, decide_eq_true_eq] at hEE
    obtain ⟨_, h5, hF⟩ := hEE
    have hn := exOk_len hF
    have hl := stk_length row ops ops.length 1 (Nat.le_refl _) (by rw [List.take_length]; exact hF)
    have HV : Hid (evx row ops = top row ops (ops.length - 1 + 1)) := by
      show _ = _
      rw [show ops.length - 1 + 1 = ops.length by omega]
      simp [evx, hE, top, hl]
    have AT := fun w h1 h2 h3 h4 => l1At_calls ops row g off cap gr offr capr 1 b1 hF ops.length (ops.length - 1) (by omega) (by omega) w h1 h2 h3 h4
    rw [show ((ops.length - 1 : Nat) : Int) = (ops.length : Int) - 1 by omega] at AT
    generalize top row ops (ops.length - 1 + 1) = y at *
    have HAT := hide AT
    clear AT hl hF h5
    go_enter Tryd.func16, Tryd.ntmps16
    go_wp2_with fail
    refine (sExOk_calls ops g off cap row.length _ (by simp; omega) (hr.of hg (bA (Below.refl _ _) _)) b1).mono ?_; rintro e w1 ⟨rfl, hb1⟩
    rw [hE]
    have d1 := bT (bA (Below.refl w.heap.size w) _) hb1
    obtain ⟨hc1, hf1⟩ := bcell hb1
    have s1 : w.heap.size < w1.heap.size := by have := hb1.size; simp at this; omega
    go_wp2_with fail
    refine (unhide HAT w1 (Nat.lt_of_lt_of_le hg d1.size) (hr.of hg d1) (Nat.lt_of_lt_of_le hgr d1.size) (hrr.of hgr d1)).mono ?_; rintro e w2 ⟨rfl, hb2⟩
    obtain ⟨hc2, hf2⟩ := bcell hb2
    go_wp2
    refine bodyPost_ret (v := .tuple #[.agg #[.bool y.1, .int .i64 y.2], .bool true]) ?_ rfl ⟨by rw [HV.out], ?_⟩
    · simp [results, Tryd.results16, go_sem, hc2, hc1, s1]
    · exact ((bT d1 hb2).setCell (by simp) _).setCell (by simp) _

set_option maxHeartbeats 1000000 in
theorem EvalEx_calls (ops : List O2) (row : List V2) (g off cap gr offr capr : Nat) (w : World) (hT : TTakes w) (hTv : TVal w) (hTn : TNot w) (hTa : TAnd w) (hTo : TOr w) (hTc : TCmp w) (hg : g < w.heap.size) (hr : OpsAt w g off ops) (hgr : gr < w.heap.size) (hrr : RowAt w gr offr row) (b1 : ops.length ≤ 1048576) :
    Calls Tryd.prog 17 #[.slice (some ⟨g, off, none⟩) ops.length cap, .slice (some ⟨gr, offr, none⟩) row.length capr] w fun e w' => e = .returned (.tuple #[.agg #[.bool (evx row ops).1, .int .i64 (evx row ops).2], .bool (exOk row.length ops)]) ∧ Below w.heap.size w w' := by
  have q1 : g < w.heap.size + 1 := by omega
  have dw := bA (Below.refl w.heap.size w) (.cells #[.bool false, .int .i64 0] 24)
  cases hE : exOk row.length ops
  · have HV : Hid (evx row ops = (true, 0)) := by show _ = _; simp [evx, hE]
    go_enter Tryd.func17, Tryd.ntmps17
    go_wp2_with fail
    refine (ExOk_calls ops g off cap row.length _ (hT.of dw) (by simp; omega) (hr.of hg dw) b1).mono ?_; rintro e w1 ⟨rfl, hb1⟩
    rw [hE]
    have d1 := bT dw hb1
    obtain ⟨hc1, hf1⟩ := bcell hb1
    have s1 : w.heap.size < w1.heap.size := by have := hb1.size; simp at this; omega
    go_wp2
    refine bodyPost_ret (v := .tuple #[.agg #[.bool (true, (0 : Int)).1, .int .i64 (true, (0 : Int)).2], .bool false]) ?_ rfl ⟨by rw [HV.out], ?_⟩
    · simp [results, Tryd.results17, go_sem, hc1]
    · exact (d1.setCell (by simp) _).setCell (by simp) _
  · have hEE := hE
    simp only [exOk, decide_eq_true_eq] at hEE
    obtain ⟨_, h5, hF⟩ := hEE
    have HV : Hid (evx row ops = (stk row ops ops.length).getD 0 (false, 0)) := by show _ = _; simp [evx, hE]
    have RX := fun w h0 h1 h2 h3 h4 h6 h7 h8 h9 h10 => runEx_calls ops row g off cap gr offr capr w h0 h1 h2 h3 h4 h6 h7 h8 h9 h10 h5 hF
    generalize (stk row ops ops.length).getD 0 (false, 0) = y at *
    have HRX := hide RX
    clear RX hF h5
    go_enter Tryd.func17, Tryd.ntmps17
    go_wp2_with fail
    refine (ExOk_calls ops g off cap row.length _ (hT.of dw) (by simp; omega) (hr.of hg dw) b1).mono ?_; rintro e w1 ⟨rfl, hb1⟩
    rw [hE]
    have d1 := bT dw hb1
    obtain ⟨hc1, hf1⟩ := bcell hb1
    have s1 : w.heap.size < w1.heap.size := by have := hb1.size; simp at this; omega
    go_wp2_with fail
    refine (unhide HRX w1 (hT.of d1) (hTv.of d1) (hTn.of d1) (hTa.of d1) (hTo.of d1) (hTc.of d1) (Nat.lt_of_lt_of_le hg d1.size) (hr.of hg d1) (Nat.lt_of_lt_of_le hgr d1.size) (hrr.of hgr d1)).mono ?_; rintro e w2 ⟨rfl, hb2⟩
    obtain ⟨hc2, hf2⟩ := bcell hb2
    go_wp2
    refine bodyPost_ret (v := .tuple #[.agg #[.bool y.1, .int .i64 y.2], .bool true]) ?_ rfl ⟨by rw [HV.out], ?_⟩
    · simp [results, Tryd.results17, go_sem, hc2, hc1, s1]
    · exact ((bT d1 hb2).setCell (by simp) _).setCell (by simp) _
end Go.Proofs.YtafmlbojmmdcdaaDoor
