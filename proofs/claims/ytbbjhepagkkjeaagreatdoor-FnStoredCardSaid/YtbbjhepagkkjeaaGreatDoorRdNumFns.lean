import Derived.Test.YtbbjhepagkkjeaaGreatDoorQ37
import Derived.Test.YtbbjhepagkkjeaaGreatDoorQ10
import Derived.Test.YtbbjhepagkkjeaaGreatDoorQ0
namespace Go.Proofs.YtbbjhepagkkjeaaGreatDoor
open Go Go.RowKit
theorem numB_iff (s : ByteArray) : NumB s ↔ 0 < s.size - frn s ∧ ∀ i, i < s.size - frn s → digit (byt (s.extract (frn s) s.size) i) = true := by
  have hf := frn_le s
  unfold NumB
  constructor
  · rintro ⟨h1, h2⟩
    exact ⟨by omega, fun i hi => by rw [ext_byt s _ _ i (by omega)]; exact h2 _ (by omega) (by omega)⟩
  · rintro ⟨h1, h2⟩
    refine ⟨by omega, fun i h3 h4 => ?_⟩
    have := h2 (i - frn s) (by omega)
    rw [ext_byt s _ _ _ (by omega)] at this
    rwa [show frn s + (i - frn s) = i by omega] at this
set_option maxHeartbeats 4000000 in
theorem l2IsNumber_calls (s : ByteArray) (w : World) (hs : s.size ≤ 1048576) : Calls Tryz.prog 39 #[.string s] w fun e w' => e = .returned (.bool (dB (NumB s))) ∧ w' = w := by
  have hf := frn_le s
  obtain ⟨t, hst⟩ : ∃ t, t = s.extract (frn s) s.size := ⟨_, rfl⟩
  have hts : t.size = s.size - frn s := by rw [hst]; exact ext_size s _ _ (Nat.le_refl _)
  have HYes : Hid ((∀ i, i < t.size → digit (byt t i) = true) → 0 < t.size → NumB s) := fun h1 h2 => (numB_iff s).2 ⟨by omega, fun i hi => by rw [← hst]; exact h1 i (by omega)⟩
  have HNo : Hid (∀ i, i < t.size → digit (byt t i) = false → ¬ NumB s) := fun i hi h1 h2 => by
    have := ((numB_iff s).1 h2).2 i (by omega)
    rw [← hst, h1] at this
    cases this
  have HNo0 : Hid (t.size = 0 → ¬ NumB s) := fun h0 h2 => by
    have := ((numB_iff s).1 h2).1
    omega
  have ht : t.size ≤ 1048576 := by omega
  by_cases h0 : 0 < s.size
  · have j0 : (0 : Int) < (s.size : Int) := by omega
    have eb0 := byt_eq s 0 h0
    by_cases h45 : byt s 0 = 45
    · have hf1 : frn s = 1 := by unfold frn; rw [if_pos ⟨h0, h45⟩]
      rw [hf1] at hst hts
      go_enter Tryz.func39, Tryz.ntmps39
      go_wp2
      rw [← hst]
      clear hst hf1 h45 eb0 hts hf
      go_loopw [3] (fun i wr => ∃ k : Nat, k ≤ t.size ∧ i = .int .i64 k ∧ (∀ j, j < k → digit (byt t j) = true) ∧ wr = w) (fun i _ => t.size - (intOf i).toNat)
      case atStart => exact ⟨0, Nat.zero_le _, rfl, fun i hi => by omega, rfl⟩
      case round =>
        obtain ⟨k, hk, rfl, hw, rfl⟩ := hrel
        have HW := hide hw
        clear hw
        by_cases hlt : k < t.size
        · have eb := byt_eq t k hlt
          have PC := fun w => digit_calls (byt t k) w
          have j1 : (k : Int) < (t.size : Int) := by omega
          have Hn : Hid (digit (byt t k) = true → ∀ j, j < k + 1 → digit (byt t j) = true) := fun h j hj => by
            by_cases e : j = k
            · subst e; exact h
            · exact unhide HW j (by omega)
          have He : Hid (digit (byt t k) = false → dB (NumB s) = false) := fun h => dB_false (unhide HNo k hlt h)
          generalize byt t k = c at *
          generalize digit c = p at *
          have HP := hide PC
          clear PC
          cases p
          · go_wp2_with fail
            refine (unhide HP _).mono ?_; rintro e w1 ⟨rfl, rfl⟩
            go_wp2
            go_ret
            exact ⟨congrArg (fun z : Bool => Ending.returned (.bool z)) (unhide He (by first | rfl | trivial)).symm, rfl⟩
          · go_wp2_with fail
            refine (unhide HP _).mono ?_; rintro e w1 ⟨rfl, rfl⟩
            go_wp2
            go_roundw
            case rel => exact ⟨k + 1, by omega, by go_num, unhide Hn (by first | rfl | trivial), by first | rfl | trivial⟩
            case measure => simp [intOf]; omega
        · obtain rfl : k = t.size := by omega
          by_cases hz : 0 < t.size
          · have jz : (0 : Int) < (t.size : Int) := by omega
            have He := hide (dB_true (unhide HYes (unhide HW) hz))
            go_wp2
            go_ret
            exact ⟨congrArg (fun z : Bool => Ending.returned (.bool z)) (unhide He).symm, rfl⟩
          · have jz : ¬ (0 : Int) < (t.size : Int) := by omega
            have He := hide (dB_false (unhide HNo0 (by omega)))
            go_wp2
            go_ret
            exact ⟨congrArg (fun z : Bool => Ending.returned (.bool z)) (unhide He).symm, rfl⟩
    · have hf1 : frn s = 0 := by unfold frn; rw [if_neg (fun e => h45 e.2)]
      rw [hf1, ext_all] at hst
      clear hf1 hts hf
      subst hst
      generalize byt t 0 = b0 at *
      have hb45 : (b0 == 45) = false := by simp [h45]
      go_enter Tryz.func39, Tryz.ntmps39
      go_wp2
      clear h45 eb0
      go_loopw [3] (fun i wr => ∃ k : Nat, k ≤ t.size ∧ i = .int .i64 k ∧ (∀ j, j < k → digit (byt t j) = true) ∧ wr = w) (fun i _ => t.size - (intOf i).toNat)
      case atStart => exact ⟨0, Nat.zero_le _, rfl, fun i hi => by omega, rfl⟩
      case round =>
        obtain ⟨k, hk, rfl, hw, rfl⟩ := hrel
        have HW := hide hw
        clear hw
        by_cases hlt : k < t.size
        · have eb := byt_eq t k hlt
          have PC := fun w => digit_calls (byt t k) w
          have j1 : (k : Int) < (t.size : Int) := by omega
          have Hn : Hid (digit (byt t k) = true → ∀ j, j < k + 1 → digit (byt t j) = true) := fun h j hj => by
            by_cases e : j = k
            · subst e; exact h
            · exact unhide HW j (by omega)
          have He : Hid (digit (byt t k) = false → dB (NumB t) = false) := fun h => dB_false (unhide HNo k hlt h)
          generalize byt t k = c at *
          generalize digit c = p at *
          have HP := hide PC
          clear PC
          cases p
          · go_wp2_with fail
            refine (unhide HP _).mono ?_; rintro e w1 ⟨rfl, rfl⟩
            go_wp2
            go_ret
            exact ⟨congrArg (fun z : Bool => Ending.returned (.bool z)) (unhide He (by first | rfl | trivial)).symm, rfl⟩
          · go_wp2_with fail
            refine (unhide HP _).mono ?_; rintro e w1 ⟨rfl, rfl⟩
            go_wp2
            go_roundw
            case rel => exact ⟨k + 1, by omega, by go_num, unhide Hn (by first | rfl | trivial), by first | rfl | trivial⟩
            case measure => simp [intOf]; omega
        · obtain rfl : k = t.size := by omega
          by_cases hz : 0 < t.size
          · have jz : (0 : Int) < (t.size : Int) := by omega
            have He := hide (dB_true (unhide HYes (unhide HW) hz))
            go_wp2
            go_ret
            exact ⟨congrArg (fun z : Bool => Ending.returned (.bool z)) (unhide He).symm, rfl⟩
          · exact absurd h0 hz
  · have j0 : ¬ (0 : Int) < (s.size : Int) := by omega
    have hf1 : frn s = 0 := by unfold frn; rw [if_neg (fun e => h0 e.1)]
    rw [hf1, ext_all] at hst
    clear hf1 hts hf
    subst hst
    have hz0 : t.size = 0 := by omega
    have He := hide (dB_false (unhide HNo0 hz0))
    clear HYes HNo HNo0
    go_enter Tryz.func39, Tryz.ntmps39
    go_wp2
    go_loopw [3] (fun i wr => i = .int .i64 0 ∧ wr = w) (fun i _ => 0)
    case atStart => exact ⟨rfl, rfl⟩
    case round =>
      obtain ⟨rfl, rfl⟩ := hrel
      go_wp2
      go_ret
      exact ⟨congrArg (fun z : Bool => Ending.returned (.bool z)) (unhide He).symm, rfl⟩
set_option maxHeartbeats 2000000 in
theorem l2Digits_calls (s : ByteArray) (w : World) (hs : s.size ≤ 1048576) (h0 : 0 < s.size) : Calls Tryz.prog 76 #[.string s] w fun e w' => e = .returned (.int .i64 ((s.size - frn s : Nat) : Int)) ∧ w' = w := by
  have eb0 := byt_eq s 0 h0
  have j0 : (0 : Int) < (s.size : Int) := by omega
  by_cases h45 : byt s 0 = 45
  · have hf1 : frn s = 1 := by unfold frn; rw [if_pos ⟨h0, h45⟩]
    rw [hf1]
    have HE : Hid (((s.size - 1 : Nat) : Int) = (s.size : Int) - 1) := by show _ = _; omega
    clear hf1
    go_enter Tryz.func76, Tryz.ntmps76
    go_wp2
    go_ret
    exact ⟨congrArg (fun z : Int => Ending.returned (.int .i64 z)) (unhide HE).symm, rfl⟩
  · have hf1 : frn s = 0 := by unfold frn; rw [if_neg (fun e => h45 e.2)]
    rw [hf1, Nat.sub_zero]
    clear hf1
    go_enter Tryz.func76, Tryz.ntmps76
    go_wp2
    go_ret
    exact ⟨rfl, rfl⟩
set_option maxHeartbeats 4000000 in
theorem l2Value_calls (s : ByteArray) (w : World) (h0 : 0 < s.size) (h18 : s.size - frn s ≤ 18) : Calls Tryz.prog 15 #[.string s] w fun e w' => e = .returned (.int .i64 (nVal s)) ∧ w' = w := by
  have hs : s.size ≤ 20 := by have := frn_le s; omega
  have HSm : Hid (∀ k, vTo s k < 1000000000000000000) := fun k => vTo_small s k h18
  clear h18
  go_enter Tryz.func15, Tryz.ntmps15
  go_wp2
  go_loopw [3, 4] (fun v i wr => ∃ k : Nat, k ≤ s.size ∧ i = .int .i64 k ∧ v = .int .i64 (vTo s k : Int) ∧ wr = w) (fun _ i _ => s.size - (intOf i).toNat)
  case atStart => exact ⟨0, Nat.zero_le _, rfl, by rw [vTo_zero]; rfl, rfl⟩
  case round =>
    obtain ⟨k, hk, rfl, rfl, rfl⟩ := hrel
    by_cases hlt : k < s.size
    · have eb := byt_eq s k hlt
      have PC := fun w => digit_calls (byt s k) w
      have j1 : (k : Int) < (s.size : Int) := by omega
      have Hd := hide (vTo_digit s k hlt)
      have Ho := hide (vTo_other s k hlt)
      have hb := unhide HSm k
      have hr := byt_range s k
      have hdr : digit (byt s k) = true → 48 ≤ byt s k ∧ byt s k ≤ 57 := fun h => by simpa [digit] using h
      have HDr := hide hdr
      clear hdr
      generalize byt s k = c at *
      generalize vTo s k = v at *
      cases hp : digit c
      · rw [hp] at PC Ho
        have HP := hide PC
        have HO2 := hide (unhide Ho rfl)
        clear PC hp Hd HDr Ho
        go_wp2_with fail
        refine (unhide HP _).mono ?_; rintro e w1 ⟨rfl, rfl⟩
        go_wp2
        go_roundw
        case rel => exact ⟨k + 1, by omega, by go_num, by rw [unhide HO2], by first | rfl | trivial⟩
        case measure => simp [intOf]; omega
      · have hcr := unhide HDr hp
        rw [hp] at PC Hd
        have HP := hide PC
        have hd2 := unhide Hd rfl
        have hb2 := unhide HSm (k + 1)
        have HD2 := hide hd2
        have hb3 : (v : Int) * 10 + (c - 48) < 1000000000000000000 := by omega
        clear hd2 hb2
        have w1' : IntKind.i64.wrap ((v : Int) * 10) = (v : Int) * 10 := by rw [IntKind.wrap_i64]; omega
        have w2' : IntKind.u8.wrap (c - 48) = c - 48 := by rw [IntKind.wrap_u8]; omega
        have w3' : IntKind.i64.wrap (c - 48) = c - 48 := by rw [IntKind.wrap_i64]; omega
        have w4' : IntKind.i64.wrap ((v : Int) * 10 + (c - 48)) = (v : Int) * 10 + (c - 48) := by rw [IntKind.wrap_i64]; omega
        clear PC hp Hd HDr Ho
        go_wp2_with fail
        refine (unhide HP _).mono ?_; rintro e w1 ⟨rfl, rfl⟩
        go_wp2
        go_roundw
        case rel => exact ⟨k + 1, by omega, by go_num, by rw [unhide HD2], by first | rfl | trivial⟩
        case measure => simp [intOf]; omega
    · obtain rfl : k = s.size := by omega
      have eb0 := byt_eq s 0 h0
      have j0 : (0 : Int) < (s.size : Int) := by omega
      have hb := unhide HSm s.size
      by_cases h45 : byt s 0 = 45
      · have HE : Hid (nVal s = - (vTo s s.size : Int)) := by show _ = _; unfold nVal; rw [if_pos h45]
        have w1' : IntKind.i64.wrap (-(vTo s s.size : Int)) = -(vTo s s.size : Int) := by rw [IntKind.wrap_i64]; omega
        go_wp2
        go_ret
        exact ⟨congrArg (fun z : Int => Ending.returned (.int .i64 z)) (unhide HE).symm, rfl⟩
      · have HE : Hid (nVal s = (vTo s s.size : Int)) := by show _ = _; unfold nVal; rw [if_neg h45]
        go_wp2
        go_ret
        exact ⟨congrArg (fun z : Int => Ending.returned (.int .i64 z)) (unhide HE).symm, rfl⟩
end Go.Proofs.YtbbjhepagkkjeaaGreatDoor
