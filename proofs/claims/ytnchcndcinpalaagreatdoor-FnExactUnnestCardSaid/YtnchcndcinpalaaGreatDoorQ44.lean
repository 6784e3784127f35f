import Derived.Test.YtnchcndcinpalaaGreatDoorQ23
import Derived.Test.YtnchcndcinpalaaGreatDoorQ43
import Derived.Test.YtnchcndcinpalaaGreatDoorQ7
import Derived.Deep.RegionHeld3
import Derived.Deep.DeepCutAuto
import Derived.Test.YtnchcndcinpalaaGreatDoorQ2
import Derived.Test.YtnchcndcinpalaaGreatDoorQ12
namespace Go.Proofs.YtnchcndcinpalaaGreatDoor
open Go Go.RowKit
theorem szOpS_szr (v : Value) (xs : List O2) (left : Int) (w : World) (hv : IsOps w v xs) (hl : xs.length ≤ maxLen) (h0 : 0 ≤ left) (h1 : left ≤ 1048576) :
    Calls Tryz.prog 90 #[v, .int .i64 left] w fun e w' => e = .returned (.int .i64 (szr left xs.length)) ∧ w' = w := szOpS_calls v xs left w hv hl h0 h1
set_option maxHeartbeats 1000000 in
theorem szOpSS_calls (v : Value) (oss : List (List O2)) (left : Int) (w : World) (hv : IsOpss w v oss) (hl : oss.length ≤ maxLen) (hl2 : ∀ xs ∈ oss, xs.length ≤ maxLen) (h0 : 0 ≤ left) (h1 : left ≤ 1048576) :
    Calls Tryz.prog 91 #[v, .int .i64 left] w fun e w' => e = .returned (.int .i64 (szr left (oss.length + bulkO oss))) ∧ w' = w := by
  have HV := hide hv
  obtain ⟨a, cap, rfl⟩ := isOpss_slice hv
  have HF := hide hl2
  clear hv hl2
  unfold maxLen at hl
  by_cases c1 : left < (oss.length : Int)
  · have HE : Hid (szr left (oss.length + bulkO oss) = -1) := by show _ = _; unfold szr; rw [if_pos (by omega)]
    go_enter Tryz.func91, Tryz.ntmps91
    go_wp2
    go_ret
    exact ⟨congrArg (fun z => Ending.returned (.int .i64 z)) HE.out.symm, rfl⟩
  go_enter Tryz.func91, Tryz.ntmps91
  go_wp2
  go_loopw [1, 5] (fun l c wr => ∃ (k : Nat) (lv : Int), k ≤ oss.length ∧ c = .int .i64 k ∧ l = .int .i64 lv ∧ lv = left - (oss.length : Int) - (bulkO (oss.take k) : Int) ∧ 0 ≤ lv ∧ wr = w) (fun _ c _ => oss.length - (intOf c).toNat)
  case atStart => exact ⟨0, _, Nat.zero_le _, rfl, rfl, by simp [bulkO], by omega, rfl⟩
  case round =>
    obtain ⟨k, lv, hk, rfl, rfl, hlv, hlv0, rfl⟩ := hrel
    have HLV := hide hlv
    have hlv1 : lv ≤ 1048576 := by omega
    clear hlv
    by_cases hlt : k < oss.length
    · obtain ⟨g, off, rfl, hg, ua, ucap, hu, hiu⟩ : ∃ g off, a = some ⟨g, off, none⟩ ∧ g < wr.heap.size ∧ ∃ ua ucap, wr.cell? ⟨g, off + k, none⟩ = some (.slice ua (oss[k]).length ucap) ∧ IsOps wr (.slice ua (oss[k]).length ucap) oss[k] := by
        rcases unhide HV with ⟨h, _⟩ | ⟨g, off, cap', he, hg, hr⟩
        · subst h; simp at hlt
        · simp only [Value.slice.injEq, true_and] at he
          obtain ⟨rfl, rfl⟩ := he
          obtain ⟨u, hu, hiu⟩ := hr k oss[k] (List.getElem?_eq_getElem hlt)
          obtain ⟨ua, ucap, rfl⟩ := isOps_slice hiu
          exact ⟨g, off, rfl, hg, ua, ucap, hu, hiu⟩
      have SN := szOpS_szr _ oss[k] lv wr hiu (unhide HF _ (List.getElem_mem hlt)) hlv0 hlv1
      have hbt := bulkO_take oss k hlt
      have hble := bulkO_take_le oss (k + 1)
      have j1 : (k : Int) < (oss.length : Int) := by omega
      clear hiu
      generalize (oss[k]).length = tot at *
      by_cases hlow : lv < (tot : Int)
      · have HE : Hid (szr left (oss.length + bulkO oss) = -1) := by
          show _ = _
          have := unhide HLV
          unfold szr
          rw [if_pos (by omega)]
        have e2 : szr lv tot = -1 := by unfold szr; rw [if_pos hlow]
        rw [e2] at SN
        have HSN := hide SN
        clear SN e2
        go_wp2_with fail
        refine (unhide HSN).mono ?_; rintro e w1 ⟨rfl, rfl⟩
        go_wp2
        go_ret
        exact ⟨congrArg (fun z => Ending.returned (.int .i64 z)) HE.out.symm, rfl⟩
      · have e2 : szr lv tot = lv - (tot : Int) := by unfold szr; rw [if_neg hlow]
        rw [e2] at SN
        have HSN := hide SN; have HBT := hide hbt
        have n1 : ¬ lv - (tot : Int) < 0 := by omega
        clear SN e2 hbt hble
        go_wp2_with fail
        refine (unhide HSN).mono ?_; rintro e w1 ⟨rfl, rfl⟩
        go_wp2
        go_roundw
        case rel => exact ⟨k + 1, _, by omega, by go_num, rfl, by have := unhide HLV; have := unhide HBT; omega, by omega, by first | rfl | trivial⟩
        case measure => simp [intOf]; omega
    · obtain rfl : k = oss.length := by omega
      have HE : Hid (szr left (oss.length + bulkO oss) = lv) := by
        show _ = _
        have := unhide HLV
        rw [List.take_length] at this
        unfold szr
        rw [if_neg (by omega)]
        omega
      clear HLV
      go_wp2
      go_ret
      exact ⟨congrArg (fun z => Ending.returned (.int .i64 z)) HE.out.symm, rfl⟩
theorem szr_szr (left : Int) (a b : Nat) (h : 0 ≤ szr left a) : szr (szr left a) b = szr left (a + b) := by
  unfold szr at h ⊢
  by_cases h1 : left < (a : Int)
  · rw [if_pos h1] at h; omega
  · rw [if_neg h1] at h ⊢
    by_cases h2 : left - (a : Int) < (b : Int)
    · rw [if_pos h2, if_pos (by omega)]
    · rw [if_neg h2, if_neg (by omega)]; omega
theorem szr_neg (left : Int) (a b : Nat) (h : szr left a < 0) (_ : 0 ≤ left) : szr left (a + b) = -1 := by
  unfold szr at h ⊢
  by_cases h1 : left < (a : Int)
  · rw [if_pos (by omega)]
  · rw [if_neg h1] at h; omega
theorem szr_le (left : Int) (a : Nat) (h1 : left ≤ 1048576) : szr left a ≤ 1048576 := by unfold szr; split <;> omega
theorem szr_two (left : Int) (a : Nat) : szr left a = -1 ∨ 0 ≤ szr left a := by unfold szr; split <;> omega
set_option maxHeartbeats 1000000 in
theorem szPNode_calls (K T M L R : Int) (v v' : Value) (xs : List O2) (oss : List (List O2)) (left : Int) (w : World) (hv : IsOps w v xs) (hv' : IsOpss w v' oss) (hl : xs.length ≤ maxLen) (hl' : oss.length ≤ maxLen) (hl2 : ∀ xs ∈ oss, xs.length ≤ maxLen) (h0 : 0 ≤ left) (h1 : left ≤ 1048576) :
    Calls Tryz.prog 79 #[.agg #[.int .i64 K, .int .i64 T, .int .i64 M, v, v', .int .i64 L, .int .i64 R], .int .i64 left] w fun e w' => e = .returned (.int .i64 (szr left (xs.length + (oss.length + bulkO oss)))) ∧ Below w.heap.size w w' := by
  have S1 := fun W (hb : Below w.heap.size w W) => szOpS_szr v xs left W (hv.of hb) hl h0 h1
  have S2 := fun W (hb : Below w.heap.size w W) (l : Int) h0 h1 => szOpSS_calls v' oss l W (hv'.of hb) hl' hl2 h0 h1
  obtain ⟨a, cap, rfl⟩ := isOps_slice hv
  obtain ⟨a', cap', rfl⟩ := isOpss_slice hv'
  have hA := szr_two left xs.length
  have hB := szr_le left xs.length h1
  have hC := szr_szr left xs.length (oss.length + bulkO oss)
  have hD := fun h => szr_neg left xs.length (oss.length + bulkO oss) h h0
  have S3 := fun W hb (h : 0 ≤ szr left xs.length) => S2 W hb (szr left xs.length) h hB
  have hE := szr_two left (xs.length + (oss.length + bulkO oss))
  generalize szr left (xs.length + (oss.length + bulkO oss)) = z at *
  generalize szr left xs.length = y at *
  have HS1 := hide S1; have HS3 := hide S3; have HC := hide hC; have HD := hide hD
  clear S1 S2 S3 hv hv' hl2 hC hD
  by_cases hy : y < 0
  · have HZ := hide (unhide HD hy)
    have HY := hide (show y = -1 by omega)
    clear HD HC HS3 hA hE
    go_enter Tryz.func79, Tryz.ntmps79
    go_wp2_with fail
    refine (unhide HS1 _ (bA (Below.refl _ _) _)).mono ?_; rintro e w1 ⟨rfl, rfl⟩
    go_wp2
    go_ret
    exact ⟨congrArg (fun z => Ending.returned (.int .i64 z)) (unhide HZ).symm, bA (Below.refl _ _) _⟩
  · have S4 := fun W hb => unhide HS3 W hb (by omega)
    rw [unhide HC (by omega)] at S4
    have HS4 := hide S4
    clear S4 HS3 HC HD hA
    by_cases hz : z < 0
    · have HZ := hide (show z = -1 by omega)
      clear hE
      go_enter Tryz.func79, Tryz.ntmps79
      go_wp2_with fail
      refine (unhide HS1 _ (bA (Below.refl _ _) _)).mono ?_; rintro e w1 ⟨rfl, rfl⟩
      go_wp2_with fail
      refine (unhide HS4 _ (bA (Below.refl _ _) _)).mono ?_; rintro e w1 ⟨rfl, rfl⟩
      go_wp2
      go_ret
      exact ⟨congrArg (fun z => Ending.returned (.int .i64 z)) (unhide HZ).symm, bA (Below.refl _ _) _⟩
    · clear hE
      go_enter Tryz.func79, Tryz.ntmps79
      go_wp2_with fail
      refine (unhide HS1 _ (bA (Below.refl _ _) _)).mono ?_; rintro e w1 ⟨rfl, rfl⟩
      go_wp2_with fail
      refine (unhide HS4 _ (bA (Below.refl _ _) _)).mono ?_; rintro e w1 ⟨rfl, rfl⟩
      go_wp2
      go_ret
      exact ⟨rfl, bA (Below.refl _ _) _⟩
def FitsP (ps : List Pn) : Prop := ∀ p ∈ ps, p.Ex.length ≤ maxLen ∧ p.Exs.length ≤ maxLen ∧ ∀ xs ∈ p.Exs, xs.length ≤ maxLen
set_option maxHeartbeats 2000000 in
theorem szPNodeS_calls (v : Value) (ps : List Pn) (left : Int) (w : World) (hv : IsPns w v ps) (hl : ps.length ≤ maxLen) (hf : FitsP ps) (h0 : 0 ≤ left) (h1 : left ≤ 1048576) :
    Calls Tryz.prog 42 #[v, .int .i64 left] w fun e w' => e = .returned (.int .i64 (szr left (ps.length + bulkP ps))) ∧ Below w.heap.size w w' := by
  have HV := hide hv
  obtain ⟨a, cap, rfl⟩ := isPns_slice hv
  have HF := hide hf
  clear hv hf
  unfold maxLen at hl
  by_cases c1 : left < (ps.length : Int)
  · have HE : Hid (szr left (ps.length + bulkP ps) = -1) := by show _ = _; unfold szr; rw [if_pos (by omega)]
    go_enter Tryz.func42, Tryz.ntmps42
    go_wp2
    go_ret
    exact ⟨congrArg (fun z => Ending.returned (.int .i64 z)) HE.out.symm, Below.refl _ _⟩
  go_enter Tryz.func42, Tryz.ntmps42
  go_wp2
  go_loopw [1, 5] (fun l c wr => ∃ (k : Nat) (lv : Int), k ≤ ps.length ∧ c = .int .i64 k ∧ l = .int .i64 lv ∧ lv = left - (ps.length : Int) - (bulkP (ps.take k) : Int) ∧ 0 ≤ lv ∧ Below w.heap.size w wr) (fun _ c _ => ps.length - (intOf c).toNat)
  case atStart => exact ⟨0, _, Nat.zero_le _, rfl, rfl, by simp [bulkP], by omega, Below.refl _ _⟩
  case round =>
    obtain ⟨k, lv, hk, rfl, rfl, hlv, hlv0, hb⟩ := hrel
    have HLV := hide hlv
    have hlv1 : lv ≤ 1048576 := by omega
    clear hlv
    by_cases hlt : k < ps.length
    · obtain ⟨g, off, rfl, hg, a0, a1, a2, a5, a6, ⟨ua, ucap, a3, hu⟩, ua', ucap', a4, hu'⟩ : ∃ g off, a = some ⟨g, off, none⟩ ∧ g < w.heap.size ∧ w.cell? ⟨g, off + k * 7, none⟩ = some (.int .i64 (ps[k]).K) ∧ w.cell? ⟨g, off + k * 7 + 1, none⟩ = some (.int .i64 (ps[k]).T) ∧ w.cell? ⟨g, off + k * 7 + 2, none⟩ = some (.int .i64 (ps[k]).M) ∧
          w.cell? ⟨g, off + k * 7 + 5, none⟩ = some (.int .i64 (ps[k]).L) ∧ w.cell? ⟨g, off + k * 7 + 6, none⟩ = some (.int .i64 (ps[k]).R) ∧
          (∃ ua ucap, w.cell? ⟨g, off + k * 7 + 3, none⟩ = some (.slice ua (ps[k]).Ex.length ucap) ∧ IsOps w (.slice ua (ps[k]).Ex.length ucap) (ps[k]).Ex) ∧ ∃ ua ucap, w.cell? ⟨g, off + k * 7 + 4, none⟩ = some (.slice ua (ps[k]).Exs.length ucap) ∧ IsOpss w (.slice ua (ps[k]).Exs.length ucap) (ps[k]).Exs := by
        rcases unhide HV with ⟨h, _⟩ | ⟨g, off, cap', he, hg, hr⟩
        · subst h; simp at hlt
        · simp only [Value.slice.injEq, true_and] at he
          obtain ⟨rfl, rfl⟩ := he
          obtain ⟨b0, b1, b2, b5, b6, ⟨u, b3, hu⟩, u', b4, hu'⟩ := hr k ps[k] (List.getElem?_eq_getElem hlt)
          obtain ⟨ua, ucap, rfl⟩ := isOps_slice hu
          obtain ⟨ua', ucap', rfl⟩ := isOpss_slice hu'
          exact ⟨g, off, rfl, hg, b0, b1, b2, b5, b6, ⟨ua, ucap, b3, hu⟩, ua', ucap', b4, hu'⟩
      have c0 := (hb.cell (p := ⟨g, off + k * 7, none⟩) hg).trans a0
      have c1' := (hb.cell (p := ⟨g, off + k * 7 + 1, none⟩) hg).trans a1
      have c2 := (hb.cell (p := ⟨g, off + k * 7 + 2, none⟩) hg).trans a2
      have c3 := (hb.cell (p := ⟨g, off + k * 7 + 3, none⟩) hg).trans a3
      have c4 := (hb.cell (p := ⟨g, off + k * 7 + 4, none⟩) hg).trans a4
      have c5 := (hb.cell (p := ⟨g, off + k * 7 + 5, none⟩) hg).trans a5
      have c6 := (hb.cell (p := ⟨g, off + k * 7 + 6, none⟩) hg).trans a6
      obtain ⟨f1, f2, f3⟩ := unhide HF _ (List.getElem_mem hlt)
      have SN := szPNode_calls (ps[k]).K (ps[k]).T (ps[k]).M (ps[k]).L (ps[k]).R _ _ (ps[k]).Ex (ps[k]).Exs lv wr (hu.of hb) (hu'.of hb) f1 f2 f3 hlv0 hlv1
      have hbt := bulkP_take ps k hlt
      have hble := bulkP_take_le ps (k + 1)
      have q1 : g < wr.heap.size := Nat.lt_of_lt_of_le hg hb.size
      have j1 : (k : Int) < (ps.length : Int) := by omega
      clear hu hu' f1 f2 f3 a0 a1 a2 a3 a4 a5 a6
      generalize (ps[k]).Ex.length + ((ps[k]).Exs.length + bulkO (ps[k]).Exs) = tot at *
      cases e : ps[k] with | mk K T M Ex Exs L R =>
      rw [e] at c0 c1' c2 c3 c4 c5 c6 SN
      simp only at c0 c1' c2 c3 c4 c5 c6 SN
      clear e
      by_cases hlow : lv < (tot : Int)
      · have HE : Hid (szr left (ps.length + bulkP ps) = -1) := by
          show _ = _
          have := unhide HLV
          unfold szr
          rw [if_pos (by omega)]
        have e2 : szr lv tot = -1 := by unfold szr; rw [if_pos hlow]
        rw [e2] at SN
        have HSN := hide SN
        clear SN e2
        go_wp2_with fail
        refine (unhide HSN).mono ?_; rintro e w1 ⟨rfl, hb1⟩
        go_wp2
        go_ret
        exact ⟨congrArg (fun z => Ending.returned (.int .i64 z)) HE.out.symm, bT hb hb1⟩
      · have e2 : szr lv tot = lv - (tot : Int) := by unfold szr; rw [if_neg hlow]
        rw [e2] at SN
        have HSN := hide SN; have HBT := hide hbt
        have n1 : ¬ lv - (tot : Int) < 0 := by omega
        clear SN e2 hbt hble
        go_wp2_with fail
        refine (unhide HSN).mono ?_; rintro e w1 ⟨rfl, hb1⟩
        go_wp2
        go_roundw
        case rel => exact ⟨k + 1, _, by omega, by go_num, rfl, by have := unhide HLV; have := unhide HBT; omega, by omega, bT hb hb1⟩
        case measure => simp [intOf]; omega
    · obtain rfl : k = ps.length := by omega
      have HE : Hid (szr left (ps.length + bulkP ps) = lv) := by
        show _ = _
        have := unhide HLV
        rw [List.take_length] at this
        unfold szr
        rw [if_neg (by omega)]
        omega
      clear HLV
      go_wp2
      go_ret
      exact ⟨congrArg (fun z => Ending.returned (.int .i64 z)) HE.out.symm, hb⟩
theorem szPlan_calls (v : Value) (ps : List Pn) (left : Int) (w : World) (hv : IsPns w v ps) (hl : ps.length ≤ maxLen) (hf : FitsP ps) (h0 : 0 ≤ left) (h1 : left ≤ 1048576) :
    Calls Tryz.prog 16 #[.agg #[v], .int .i64 left] w fun e w' => e = .returned (.int .i64 (szr left (ps.length + bulkP ps))) ∧ Below w.heap.size w w' := by
  have SN := fun W (hb : Below w.heap.size w W) => szPNodeS_calls v ps left W (hv.of hb) hl hf h0 h1
  obtain ⟨a, cap, rfl⟩ := isPns_slice hv
  have hz : szr left (ps.length + bulkP ps) = -1 ∨ 0 ≤ szr left (ps.length + bulkP ps) := by unfold szr; split <;> omega
  generalize szr left (ps.length + bulkP ps) = z at *
  have HSN := hide SN
  clear SN hv hf
  by_cases hz' : z < 0
  · have : z = -1 := by omega
    have HZ := hide this
    clear this hz
    go_enter Tryz.func16, Tryz.ntmps16
    go_wp2_with fail
    refine (unhide HSN _ (bA (Below.refl _ _) _)).mono ?_; rintro e w1 ⟨rfl, hb1⟩
    go_wp2
    go_ret
    exact ⟨congrArg (fun z => Ending.returned (.int .i64 z)) (unhide HZ).symm, bT (bA (Below.refl _ _) _) hb1⟩
  · clear hz
    go_enter Tryz.func16, Tryz.ntmps16
    go_wp2_with fail
    refine (unhide HSN _ (bA (Below.refl _ _) _)).mono ?_; rintro e w1 ⟨rfl, hb1⟩
    go_wp2
    go_ret
    exact ⟨rfl, bT (bA (Below.refl _ _) _) hb1⟩
end Go.Proofs.YtnchcndcinpalaaGreatDoor
namespace Go.Proofs.YtnchcndcinpalaaGreatDoor
open Go Go.RowKit
set_option maxHeartbeats 1000000 in
theorem eqOpS_calls (xs : List O2) (g off cap g' off' cap' : Nat) (w : World) (hg : g < w.heap.size) (hg' : g' < w.heap.size) (hx : OpsAt w g off xs) (hy : OpsAt w g' off' xs) (b1 : xs.length ≤ 1048576) :
    Calls Tryz.prog 108 #[.slice (some ⟨g, off, none⟩) xs.length cap, .slice (some ⟨g', off', none⟩) xs.length cap'] w fun e w' => e = .returned (.bool true) ∧ Below w.heap.size w w' := by
  have e0 : ((xs.length : Int) != (xs.length : Int)) = false := by simp
  go_enter Tryz.func108, Tryz.ntmps108
  go_wp2
  go_loopw [5] (fun c wr => ∃ k : Nat, k ≤ xs.length ∧ c = .int .i64 k ∧ Below w.heap.size w wr) (fun c _ => xs.length - (intOf c).toNat)
  case atStart => exact ⟨0, Nat.zero_le _, rfl, Below.refl _ _⟩
  case round =>
    obtain ⟨k, hk1, rfl, hb⟩ := hrel
    by_cases l1 : k < xs.length
    · obtain ⟨x0, x1⟩ := (hx.of hg hb).at k l1
      obtain ⟨y0, y1⟩ := (hy.of hg' hb).at k l1
      have j1 : (k : Int) < (xs.length : Int) := by omega
      have q1 : g < wr.heap.size := Nat.lt_of_lt_of_le hg hb.size
      have q2 : g' < wr.heap.size := Nat.lt_of_lt_of_le hg' hb.size
      go_upto_region 6 with fail
      have h1 := Below.refl wr.heap.size wr
      have h2 := h1
      go_region_held3 (Std wr) (repeat (first | with_reducible assumption | with_reducible exact Std.refl _ | with_reducible refine Std.drew ?_ | with_reducible refine Std.alloc ?_ _ | with_reducible refine Std.setCell ?_ ?_ _ | with_reducible refine Std.call ?_ (by with_reducible assumption) | (simp <;> omega) | omega)) (first | (go_at_call 125; refine (eqOp_calls _ _ _).mono ?_; rintro e w1 ⟨rfl, hb⟩; (first | have n3 := bT h2 hb | have n3 := bT (bA h2 _) hb | have n3 := bT (Below.drew h2) hb | have n3 := bT (Below.drew (bA h2 _)) hb | have n3 := bT (bA (Below.drew h2) _) hb); (first | have n2 := bT h1 hb | have n2 := bT (bA h1 _) hb | have n2 := bT (Below.drew h1) hb | have n2 := bT (Below.drew (bA h1 _)) hb | have n2 := bT (bA (Below.drew h1) _) hb); obtain ⟨c1, f1⟩ := bcell hb; obtain ⟨c2, f2⟩ := bcell n2; obtain ⟨c3, f3⟩ := bcell n3; have hs := hb.size; (try simp at hs); clear h1 h2; have h1 := hb; have h2 := n2; clear n2 hb))
      have d2 := bT hb h2
      go_wp2
      go_roundw
      case rel => exact ⟨k + 1, by omega, by go_num, d2⟩
      case measure => simp [intOf]; omega
    · go_wp2
      go_ret
      exact ⟨rfl, hb⟩
end Go.Proofs.YtnchcndcinpalaaGreatDoor
namespace Go.Proofs.YtnchcndcinpalaaGreatDoor
open Go Go.RowKit
set_option maxHeartbeats 2000000 in
theorem eqOpSS_calls (oss : List (List O2)) (g g' cap cap' : Nat) (w : World) (hg : g < w.heap.size) (hg' : g' < w.heap.size) (hx : OpssAt w g oss) (hy : OpssAt w g' oss) (b1 : oss.length ≤ 1048576) (hk : ∀ xs ∈ oss, xs.length ≤ 1048576) :
    Calls Tryz.prog 109 #[.slice (some ⟨g, 0, none⟩) oss.length cap, .slice (some ⟨g', 0, none⟩) oss.length cap'] w fun e w' => e = .returned (.bool true) ∧ Below w.heap.size w w' := by
  have e0 : ((oss.length : Int) != (oss.length : Int)) = false := by simp
  have HX := hide hx; have HY := hide hy; have HK := hide hk
  clear hx hy hk
  go_enter Tryz.func109, Tryz.ntmps109
  go_wp2
  go_loopw [5] (fun c wr => ∃ k : Nat, k ≤ oss.length ∧ c = .int .i64 k ∧ Below w.heap.size w wr) (fun c _ => oss.length - (intOf c).toNat)
  case atStart => exact ⟨0, Nat.zero_le _, rfl, Below.refl _ _⟩
  case round =>
    obtain ⟨k, hk1, rfl, hb⟩ := hrel
    by_cases l1 : k < oss.length
    · obtain ⟨bx, x0, _, hbx, hox⟩ := ((unhide HX).of hg hb) k oss[k] (List.getElem?_eq_getElem l1)
      obtain ⟨by', y0, _, hby, hoy⟩ := ((unhide HY).of hg' hb) k oss[k] (List.getElem?_eq_getElem l1)
      have hkl := unhide HK _ (List.getElem_mem l1)
      have j1 : (k : Int) < (oss.length : Int) := by omega
      have q1 : g < wr.heap.size := Nat.lt_of_lt_of_le hg hb.size
      have q2 : g' < wr.heap.size := Nat.lt_of_lt_of_le hg' hb.size
      have EN : Hid (∀ W, Std wr W → Calls Tryz.prog 108 #[.slice (some ⟨bx, 0, none⟩) (oss[k]).length (oss[k]).length, .slice (some ⟨by', 0, none⟩) (oss[k]).length (oss[k]).length] W fun e w' => e = .returned (.bool true) ∧ Below W.heap.size W w') :=
        fun W h => eqOpS_calls oss[k] bx 0 _ by' 0 _ W (Nat.lt_of_lt_of_le hbx h.2.2.size) (Nat.lt_of_lt_of_le hby h.2.2.size) (hox.of hbx h.2.2) (hoy.of hby h.2.2) hkl
      clear hox hoy hkl
      generalize (oss[k]).length = n at *
      go_upto_region 6 with fail
      have h1 := Below.refl wr.heap.size wr
      have h2 := h1
      go_region_held3 (Std wr) (repeat (first | with_reducible assumption | with_reducible exact Std.refl _ | with_reducible refine Std.drew ?_ | with_reducible refine Std.alloc ?_ _ | with_reducible refine Std.setCell ?_ ?_ _ | with_reducible refine Std.call ?_ (by with_reducible assumption) | (simp <;> omega) | omega)) (first | (go_at_call 108; refine (unhide EN _ (by assumption)).mono ?_; rintro e w1 ⟨rfl, hb⟩; (first | have n3 := bT h2 hb | have n3 := bT (bA h2 _) hb | have n3 := bT (Below.drew h2) hb | have n3 := bT (Below.drew (bA h2 _)) hb | have n3 := bT (bA (Below.drew h2) _) hb); (first | have n2 := bT h1 hb | have n2 := bT (bA h1 _) hb | have n2 := bT (Below.drew h1) hb | have n2 := bT (Below.drew (bA h1 _)) hb | have n2 := bT (bA (Below.drew h1) _) hb); obtain ⟨c1, f1⟩ := bcell hb; obtain ⟨c2, f2⟩ := bcell n2; obtain ⟨c3, f3⟩ := bcell n3; have hs := hb.size; (try simp at hs); clear h1 h2; have h1 := hb; have h2 := n2; clear n2 hb))
      have hS : Std wr w1 := by assumption
      have d2 := bT hb hS.2.2
      go_wp2
      go_roundw
      case rel => exact ⟨k + 1, by omega, by go_num, d2⟩
      case measure => simp [intOf]; omega
    · go_wp2
      go_ret
      exact ⟨rfl, hb⟩
set_option maxHeartbeats 1000000 in
theorem eqPNode_calls (K T M L R : Int) (xs : List O2) (oss : List (List O2)) (b b' d d' : Nat) (w : World) (hb : b < w.heap.size) (hb' : b' < w.heap.size) (hd : d < w.heap.size) (hd' : d' < w.heap.size) (hx : OpsAt w b 0 xs) (hy : OpsAt w b' 0 xs) (hX : OpssAt w d oss) (hY : OpssAt w d' oss)
    (b1 : xs.length ≤ 1048576) (b2 : oss.length ≤ 1048576) (hk : ∀ xs ∈ oss, xs.length ≤ 1048576) :
    Calls Tryz.prog 89 #[.agg #[.int .i64 K, .int .i64 T, .int .i64 M, .slice (some ⟨b, 0, none⟩) xs.length xs.length, .slice (some ⟨d, 0, none⟩) oss.length oss.length, .int .i64 L, .int .i64 R], .agg #[.int .i64 K, .int .i64 T, .int .i64 M, .slice (some ⟨b', 0, none⟩) xs.length xs.length, .slice (some ⟨d', 0, none⟩) oss.length oss.length, .int .i64 L, .int .i64 R]] w fun e w' => e = .returned (.bool true) ∧ Below w.heap.size w w' := by
  have E1 := fun W (h : Below w.heap.size w W) => eqOpS_calls xs b 0 xs.length b' 0 xs.length W (Nat.lt_of_lt_of_le hb h.size) (Nat.lt_of_lt_of_le hb' h.size) (hx.of hb h) (hy.of hb' h) b1
  have E2 := fun W (h : Below w.heap.size w W) => eqOpSS_calls oss d d' oss.length oss.length W (Nat.lt_of_lt_of_le hd h.size) (Nat.lt_of_lt_of_le hd' h.size) (hX.of hd h) (hY.of hd' h) b2 hk
  have H1 := hide E1; have H2 := hide E2
  have eK : (K != K) = false := by simp
  have eT : (T != T) = false := by simp
  have eM : (M != M) = false := by simp
  have eL : (L != L) = false := by simp
  have eR : (R != R) = false := by simp
  clear E1 E2 hx hy hX hY hk
  go_enter Tryz.func89, Tryz.ntmps89
  go_wp2_with fail
  refine (unhide H1 _ (bA (bA (Below.refl _ _) _) _)).mono ?_; rintro e w1 ⟨rfl, hb1⟩
  have d1 := bT (bA (bA (Below.refl w.heap.size w) _) _) hb1
  obtain ⟨hc, hf⟩ := bcell hb1
  have z0 : w.heap.size < w1.heap.size := by have := hb1.size; simp at this; omega
  have z1 : w.heap.size + 1 < w1.heap.size := by have := hb1.size; simp at this; omega
  clear hb1
  go_wp2_with fail
  refine (unhide H2 _ d1).mono ?_; rintro e w2 ⟨rfl, hb2⟩
  have d2 := bT d1 hb2
  obtain ⟨hc2, hf2⟩ := bcell hb2
  clear hb2
  go_wp2
  go_ret
  exact ⟨rfl, d2⟩
set_option maxHeartbeats 2000000 in
theorem eqPNodeS_calls (ps : List Pn) (g g' cap cap' : Nat) (w : World) (hg : g < w.heap.size) (hg' : g' < w.heap.size) (hx : PnsAt w g 0 ps) (hy : PnsAt w g' 0 ps) (b1 : ps.length ≤ 1048576) (hk : ∀ p ∈ ps, p.Ex.length ≤ 1048576 ∧ p.Exs.length ≤ 1048576 ∧ bulkO p.Exs ≤ 1048576) :
    Calls Tryz.prog 49 #[.slice (some ⟨g, 0, none⟩) ps.length cap, .slice (some ⟨g', 0, none⟩) ps.length cap'] w fun e w' => e = .returned (.bool true) ∧ Below w.heap.size w w' := by
  have e0 : ((ps.length : Int) != (ps.length : Int)) = false := by simp
  have HX := hide hx; have HY := hide hy; have HK := hide hk
  clear hx hy hk
  go_enter Tryz.func49, Tryz.ntmps49
  go_wp2
  go_loopw [5] (fun c wr => ∃ k : Nat, k ≤ ps.length ∧ c = .int .i64 k ∧ Below w.heap.size w wr) (fun c _ => ps.length - (intOf c).toNat)
  case atStart => exact ⟨0, Nat.zero_le _, rfl, Below.refl _ _⟩
  case round =>
    obtain ⟨k, hk1, rfl, hb⟩ := hrel
    by_cases l1 : k < ps.length
    · obtain ⟨x0, x1, x2, x5, x6, ⟨bx, x3, _, hbx, hox⟩, dx, x4, _, hdx, hpx⟩ := ((unhide HX).of hg hb).at k l1
      obtain ⟨y0, y1, y2, y5, y6, ⟨bY, y3, _, hbY, hoy⟩, dY, y4, _, hdY, hpy⟩ := ((unhide HY).of hg' hb).at k l1
      obtain ⟨hk1', hk2', hk3'⟩ := unhide HK _ (List.getElem_mem l1)
      simp only [Nat.zero_add] at x0 x1 x2 x3 x4 x5 x6 y0 y1 y2 y3 y4 y5 y6
      have j1 : (k : Int) < (ps.length : Int) := by omega
      have q1 : g < wr.heap.size := Nat.lt_of_lt_of_le hg hb.size
      have q2 : g' < wr.heap.size := Nat.lt_of_lt_of_le hg' hb.size
      cases e : ps[k] with | mk K T M Ex Exs L R =>
      rw [e] at x0 x1 x2 x3 x4 x5 x6 y0 y1 y2 y3 y4 y5 y6 hox hoy hpx hpy hk1' hk2' hk3'
      simp only at x0 x1 x2 x3 x4 x5 x6 y0 y1 y2 y3 y4 y5 y6 hox hoy hpx hpy hk1' hk2' hk3'
      have EN : Hid (∀ W, Std wr W → Calls Tryz.prog 89 #[.agg #[.int .i64 K, .int .i64 T, .int .i64 M, .slice (some ⟨bx, 0, none⟩) Ex.length Ex.length, .slice (some ⟨dx, 0, none⟩) Exs.length Exs.length, .int .i64 L, .int .i64 R], .agg #[.int .i64 K, .int .i64 T, .int .i64 M, .slice (some ⟨bY, 0, none⟩) Ex.length Ex.length, .slice (some ⟨dY, 0, none⟩) Exs.length Exs.length, .int .i64 L, .int .i64 R]] W fun e w' => e = .returned (.bool true) ∧ Below W.heap.size W w') :=
        fun W h => eqPNode_calls K T M L R Ex Exs bx bY dx dY W (Nat.lt_of_lt_of_le hbx h.2.2.size) (Nat.lt_of_lt_of_le hbY h.2.2.size) (Nat.lt_of_lt_of_le hdx h.2.2.size) (Nat.lt_of_lt_of_le hdY h.2.2.size) (hox.of hbx h.2.2) (hoy.of hbY h.2.2) (hpx.of hdx h.2.2) (hpy.of hdY h.2.2) hk1' hk2' (fun xs hxs => Nat.le_trans (bulkO_mem hxs) hk3')
      clear e hox hoy hpx hpy
      go_upto_region 6 with fail
      have h1 := Below.refl wr.heap.size wr
      have h2 := h1
      go_region_held3 (Std wr) (repeat (first | with_reducible assumption | with_reducible exact Std.refl _ | with_reducible refine Std.drew ?_ | with_reducible refine Std.alloc ?_ _ | with_reducible refine Std.setCell ?_ ?_ _ | with_reducible refine Std.call ?_ (by with_reducible assumption) | (simp <;> omega) | omega)) (first | (go_at_call 89; refine (unhide EN _ (by assumption)).mono ?_; rintro e w1 ⟨rfl, hb⟩; (first | have n3 := bT h2 hb | have n3 := bT (bA h2 _) hb | have n3 := bT (Below.drew h2) hb | have n3 := bT (Below.drew (bA h2 _)) hb | have n3 := bT (bA (Below.drew h2) _) hb); (first | have n2 := bT h1 hb | have n2 := bT (bA h1 _) hb | have n2 := bT (Below.drew h1) hb | have n2 := bT (Below.drew (bA h1 _)) hb | have n2 := bT (bA (Below.drew h1) _) hb); obtain ⟨c1, f1⟩ := bcell hb; obtain ⟨c2, f2⟩ := bcell n2; obtain ⟨c3, f3⟩ := bcell n3; have hs := hb.size; (try simp at hs); clear h1 h2; have h1 := hb; have h2 := n2; clear n2 hb))
      have hS : Std wr w1 := by assumption
      have d2 := bT hb hS.2.2
      go_wp2
      go_roundw
      case rel => exact ⟨k + 1, by omega, by go_num, d2⟩
      case measure => simp [intOf]; omega
    · go_wp2
      go_ret
      exact ⟨rfl, hb⟩
theorem eqPlan_calls (ps : List Pn) (g g' cap cap' : Nat) (w : World) (hg : g < w.heap.size) (hg' : g' < w.heap.size) (hx : PnsAt w g 0 ps) (hy : PnsAt w g' 0 ps) (b1 : ps.length ≤ 1048576) (hk : ∀ p ∈ ps, p.Ex.length ≤ 1048576 ∧ p.Exs.length ≤ 1048576 ∧ bulkO p.Exs ≤ 1048576) :
    Calls Tryz.prog 20 #[.agg #[.slice (some ⟨g, 0, none⟩) ps.length cap], .agg #[.slice (some ⟨g', 0, none⟩) ps.length cap']] w fun e w' => e = .returned (.bool true) ∧ Below w.heap.size w w' := by
  have EN := fun W (hb : Below w.heap.size w W) => eqPNodeS_calls ps g g' cap cap' W (Nat.lt_of_lt_of_le hg hb.size) (Nat.lt_of_lt_of_le hg' hb.size) (hx.of hg hb) (hy.of hg' hb) b1 hk
  have HEN := hide EN
  clear EN hx hy hk
  go_enter Tryz.func20, Tryz.ntmps20
  go_wp2_with fail
  refine (unhide HEN _ (bA (bA (Below.refl _ _) _) _)).mono ?_; rintro e w1 ⟨rfl, hb1⟩
  go_wp2
  go_ret
  exact ⟨rfl, bT (bA (bA (Below.refl _ _) _) _) hb1⟩
end Go.Proofs.YtnchcndcinpalaaGreatDoor
namespace Go.Proofs.YtnchcndcinpalaaGreatDoor
open Go Go.RowKit
end Go.Proofs.YtnchcndcinpalaaGreatDoor
