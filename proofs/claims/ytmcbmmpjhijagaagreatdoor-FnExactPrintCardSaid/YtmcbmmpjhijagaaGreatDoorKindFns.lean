import Derived.Test.YtmcbmmpjhijagaaGreatDoorQ3
namespace Go.Proofs.YtmcbmmpjhijagaaGreatDoor
open Go Go.RowKit
theorem isScalar_calls (c : Int) (w : World) : Calls Tryz.prog 61 #[.int .i64 c] w fun e w' => e = .returned (.bool (scB c)) ∧ w' = w := by
  by_cases h1 : 1 ≤ c
  · have HE : Hid (scB c = decide (c ≤ 4)) := by show _ = _; simp [scB, h1]
    go_enter Tryz.func61, Tryz.ntmps61
    go_wp2
    go_ret
    exact ⟨congrArg (fun z => Ending.returned (.bool z)) HE.out.symm, rfl⟩
  · have HE : Hid (scB c = false) := by show _ = _; simp [scB, h1]
    go_enter Tryz.func61, Tryz.ntmps61
    go_wp2
    go_ret
    exact ⟨congrArg (fun z => Ending.returned (.bool z)) HE.out.symm, rfl⟩
theorem isCond_calls (c : Int) (w : World) : Calls Tryz.prog 62 #[.int .i64 c] w fun e w' => e = .returned (.bool (cdB c)) ∧ w' = w := by
  by_cases h1 : 8 ≤ c
  · have HE : Hid (cdB c = decide (c ≤ 15)) := by show _ = _; simp [cdB, h1]
    go_enter Tryz.func62, Tryz.ntmps62
    go_wp2
    go_ret
    exact ⟨congrArg (fun z => Ending.returned (.bool z)) HE.out.symm, rfl⟩
  · have HE : Hid (cdB c = false) := by show _ = _; simp [cdB, h1]
    go_enter Tryz.func62, Tryz.ntmps62
    go_wp2
    go_ret
    exact ⟨congrArg (fun z => Ending.returned (.bool z)) HE.out.symm, rfl⟩
theorem isSource_calls (c : Int) (w : World) : Calls Tryz.prog 73 #[.int .i64 c] w fun e w' => e = .returned (.bool (fives c)) ∧ w' = w := by
  have HE : Hid (fives c = (c == 5)) := by show _ = _; rw [Bool.eq_iff_iff]; simp [fives]
  go_enter Tryz.func73, Tryz.ntmps73
  go_wp2
  go_ret
  exact ⟨congrArg (fun z => Ending.returned (.bool z)) HE.out.symm, rfl⟩
theorem isSelect_calls (c : Int) (w : World) : Calls Tryz.prog 60 #[.int .i64 c] w fun e w' => e = .returned (.bool (sixes c)) ∧ w' = w := by
  have HE : Hid (sixes c = (c == 6)) := by show _ = _; rw [Bool.eq_iff_iff]; simp [sixes]
  go_enter Tryz.func60, Tryz.ntmps60
  go_wp2
  go_ret
  exact ⟨congrArg (fun z => Ending.returned (.bool z)) HE.out.symm, rfl⟩
theorem isQuery_calls (c : Int) (w : World) : Calls Tryz.prog 33 #[.int .i64 c] w fun e w' => e = .returned (.bool (quB c)) ∧ w' = w := by
  cases h1 : (c == 6)
  · have HE : Hid (quB c = (c == 7)) := by
      show _ = _
      have := beq_eq_false_iff_ne.1 h1
      rw [Bool.eq_iff_iff]
      simp [quB, this]
    go_enter Tryz.func33, Tryz.ntmps33
    go_wp2
    go_ret
    exact ⟨congrArg (fun z => Ending.returned (.bool z)) HE.out.symm, rfl⟩
  · have HE : Hid (quB c = true) := by
      show _ = _
      have := beq_iff_eq.1 h1
      simp [quB, this]
    go_enter Tryz.func33, Tryz.ntmps33
    go_wp2
    go_ret
    exact ⟨congrArg (fun z => Ending.returned (.bool z)) HE.out.symm, rfl⟩
theorem sIsScalar_calls (c : Int) (w : World) : Calls Tryz.prog 69 #[.int .i64 c] w fun e w' => e = .returned (.bool (scB c)) ∧ w' = w := by
  by_cases h1 : 1 ≤ c
  · have HE : Hid (scB c = decide (c ≤ 4)) := by show _ = _; simp [scB, h1]
    go_enter Tryz.func69, Tryz.ntmps69
    go_wp2
    go_ret
    exact ⟨congrArg (fun z => Ending.returned (.bool z)) HE.out.symm, rfl⟩
  · have HE : Hid (scB c = false) := by show _ = _; simp [scB, h1]
    go_enter Tryz.func69, Tryz.ntmps69
    go_wp2
    go_ret
    exact ⟨congrArg (fun z => Ending.returned (.bool z)) HE.out.symm, rfl⟩
theorem sIsQuery_calls (c : Int) (w : World) : Calls Tryz.prog 22 #[.int .i64 c] w fun e w' => e = .returned (.bool (quB c)) ∧ w' = w := by
  cases h1 : (c == 6)
  · have HE : Hid (quB c = (c == 7)) := by
      show _ = _
      have := beq_eq_false_iff_ne.1 h1
      rw [Bool.eq_iff_iff]
      simp [quB, this]
    go_enter Tryz.func22, Tryz.ntmps22
    go_wp2
    go_ret
    exact ⟨congrArg (fun z => Ending.returned (.bool z)) HE.out.symm, rfl⟩
  · have HE : Hid (quB c = true) := by
      show _ = _
      have := beq_iff_eq.1 h1
      simp [quB, this]
    go_enter Tryz.func22, Tryz.ntmps22
    go_wp2
    go_ret
    exact ⟨congrArg (fun z => Ending.returned (.bool z)) HE.out.symm, rfl⟩
set_option maxHeartbeats 1000000 in
theorem allScalar_calls (xs : List Int) (g off cap : Nat) (least : Int) (w : World) (hx : IntsAt w g off xs) (hl : xs.length ≤ 1048576) :
    Calls Tryz.prog 59 #[.slice (some ⟨g, off, none⟩) xs.length cap, .int .i64 least, .func (Fn.func 61) #[] #[]] w fun e w' => e = .returned (.bool (dB ((∀ x ∈ xs, scB x = true) ∧ least ≤ (xs.length : Int)))) ∧ w' = w := by
  go_enter Tryz.func59, Tryz.ntmps59
  go_wp2
  go_loopw [8, 11] (fun _ i wr => ∃ k : Nat, k ≤ xs.length ∧ i = .int .i64 k ∧ (∀ x ∈ xs.take k, scB x = true) ∧ wr = w) (fun _ i _ => xs.length - (intOf i).toNat)
  case atStart => exact ⟨0, Nat.zero_le _, rfl, fun x hx => by simp at hx, rfl⟩
  case round =>
    obtain ⟨k, hk, rfl, hw, rfl⟩ := hrel
    have HW := hide hw
    clear hw
    by_cases hlt : k < xs.length
    · have e0 := hx.at k hlt
      have j1 : (k : Int) < (xs.length : Int) := by omega
      have hnext : scB xs[k] = true → ∀ x ∈ xs.take (k + 1), scB x = true := fun h x hx => by
        rw [take_snocN xs k hlt] at hx
        rcases List.mem_append.1 hx with h' | h'
        · exact unhide HW x h'
        · simp at h'; subst h'; exact h
      have hbad : scB xs[k] = false → ¬ ((∀ x ∈ xs, scB x = true) ∧ least ≤ (xs.length : Int)) := fun h hh => by
        have := hh.1 xs[k] (List.getElem_mem hlt)
        rw [h] at this; cases this
      have Hn := hide hnext; have Hb := hide hbad
      clear hnext hbad
      have hf := fun w => isScalar_calls xs[k] w
      generalize xs[k] = c at *
      generalize scB c = b at *
      have Hf := hide hf
      clear hf
      cases b
      · go_wp2_with fail
        refine (unhide Hf _).mono ?_; rintro e w1 ⟨rfl, rfl⟩
        go_wp2
        go_ret
        exact ⟨congrArg (fun z => Ending.returned (.bool z)) (dB_false (unhide Hb (by first | rfl | trivial))).symm, rfl⟩
      · go_wp2_with fail
        refine (unhide Hf _).mono ?_; rintro e w1 ⟨rfl, rfl⟩
        go_wp2
        go_roundw
        case rel => exact ⟨k + 1, by omega, by go_num, unhide Hn (by first | rfl | trivial), by first | rfl | trivial⟩
        case measure => simp [intOf]; omega
    · obtain rfl : k = xs.length := by omega
      have HE : Hid (dB ((∀ x ∈ xs, scB x = true) ∧ least ≤ (xs.length : Int)) = decide (least ≤ (xs.length : Int))) := by
        show _ = _
        have := unhide HW
        rw [List.take_length] at this
        rw [Bool.eq_iff_iff, dB_iff, decide_eq_true_eq]
        exact ⟨fun h => h.2, fun h => ⟨this, h⟩⟩
      clear HW
      go_wp2
      go_ret
      exact ⟨congrArg (fun z => Ending.returned (.bool z)) HE.out.symm, rfl⟩
set_option maxHeartbeats 1000000 in
theorem allCond_calls (xs : List Int) (g off cap : Nat) (least : Int) (w : World) (hx : IntsAt w g off xs) (hl : xs.length ≤ 1048576) :
    Calls Tryz.prog 59 #[.slice (some ⟨g, off, none⟩) xs.length cap, .int .i64 least, .func (Fn.func 62) #[] #[]] w fun e w' => e = .returned (.bool (dB ((∀ x ∈ xs, cdB x = true) ∧ least ≤ (xs.length : Int)))) ∧ w' = w := by
  go_enter Tryz.func59, Tryz.ntmps59
  go_wp2
  go_loopw [8, 11] (fun _ i wr => ∃ k : Nat, k ≤ xs.length ∧ i = .int .i64 k ∧ (∀ x ∈ xs.take k, cdB x = true) ∧ wr = w) (fun _ i _ => xs.length - (intOf i).toNat)
  case atStart => exact ⟨0, Nat.zero_le _, rfl, fun x hx => by simp at hx, rfl⟩
  case round =>
    obtain ⟨k, hk, rfl, hw, rfl⟩ := hrel
    have HW := hide hw
    clear hw
    by_cases hlt : k < xs.length
    · have e0 := hx.at k hlt
      have j1 : (k : Int) < (xs.length : Int) := by omega
      have hnext : cdB xs[k] = true → ∀ x ∈ xs.take (k + 1), cdB x = true := fun h x hx => by
        rw [take_snocN xs k hlt] at hx
        rcases List.mem_append.1 hx with h' | h'
        · exact unhide HW x h'
        · simp at h'; subst h'; exact h
      have hbad : cdB xs[k] = false → ¬ ((∀ x ∈ xs, cdB x = true) ∧ least ≤ (xs.length : Int)) := fun h hh => by
        have := hh.1 xs[k] (List.getElem_mem hlt)
        rw [h] at this; cases this
      have Hn := hide hnext; have Hb := hide hbad
      clear hnext hbad
      have hf := fun w => isCond_calls xs[k] w
      generalize xs[k] = c at *
      generalize cdB c = b at *
      have Hf := hide hf
      clear hf
      cases b
      · go_wp2_with fail
        refine (unhide Hf _).mono ?_; rintro e w1 ⟨rfl, rfl⟩
        go_wp2
        go_ret
        exact ⟨congrArg (fun z => Ending.returned (.bool z)) (dB_false (unhide Hb (by first | rfl | trivial))).symm, rfl⟩
      · go_wp2_with fail
        refine (unhide Hf _).mono ?_; rintro e w1 ⟨rfl, rfl⟩
        go_wp2
        go_roundw
        case rel => exact ⟨k + 1, by omega, by go_num, unhide Hn (by first | rfl | trivial), by first | rfl | trivial⟩
        case measure => simp [intOf]; omega
    · obtain rfl : k = xs.length := by omega
      have HE : Hid (dB ((∀ x ∈ xs, cdB x = true) ∧ least ≤ (xs.length : Int)) = decide (least ≤ (xs.length : Int))) := by
        show _ = _
        have := unhide HW
        rw [List.take_length] at this
        rw [Bool.eq_iff_iff, dB_iff, decide_eq_true_eq]
        exact ⟨fun h => h.2, fun h => ⟨this, h⟩⟩
      clear HW
      go_wp2
      go_ret
      exact ⟨congrArg (fun z => Ending.returned (.bool z)) HE.out.symm, rfl⟩
set_option maxHeartbeats 1000000 in
theorem allSource_calls (xs : List Int) (g off cap : Nat) (least : Int) (w : World) (hx : IntsAt w g off xs) (hl : xs.length ≤ 1048576) :
    Calls Tryz.prog 59 #[.slice (some ⟨g, off, none⟩) xs.length cap, .int .i64 least, .func (Fn.func 73) #[] #[]] w fun e w' => e = .returned (.bool (dB ((∀ x ∈ xs, fives x = true) ∧ least ≤ (xs.length : Int)))) ∧ w' = w := by
  go_enter Tryz.func59, Tryz.ntmps59
  go_wp2
  go_loopw [8, 11] (fun _ i wr => ∃ k : Nat, k ≤ xs.length ∧ i = .int .i64 k ∧ (∀ x ∈ xs.take k, fives x = true) ∧ wr = w) (fun _ i _ => xs.length - (intOf i).toNat)
  case atStart => exact ⟨0, Nat.zero_le _, rfl, fun x hx => by simp at hx, rfl⟩
  case round =>
    obtain ⟨k, hk, rfl, hw, rfl⟩ := hrel
    have HW := hide hw
    clear hw
    by_cases hlt : k < xs.length
    · have e0 := hx.at k hlt
      have j1 : (k : Int) < (xs.length : Int) := by omega
      have hnext : fives xs[k] = true → ∀ x ∈ xs.take (k + 1), fives x = true := fun h x hx => by
        rw [take_snocN xs k hlt] at hx
        rcases List.mem_append.1 hx with h' | h'
        · exact unhide HW x h'
        · simp at h'; subst h'; exact h
      have hbad : fives xs[k] = false → ¬ ((∀ x ∈ xs, fives x = true) ∧ least ≤ (xs.length : Int)) := fun h hh => by
        have := hh.1 xs[k] (List.getElem_mem hlt)
        rw [h] at this; cases this
      have Hn := hide hnext; have Hb := hide hbad
      clear hnext hbad
      have hf := fun w => isSource_calls xs[k] w
      generalize xs[k] = c at *
      generalize fives c = b at *
      have Hf := hide hf
      clear hf
      cases b
      · go_wp2_with fail
        refine (unhide Hf _).mono ?_; rintro e w1 ⟨rfl, rfl⟩
        go_wp2
        go_ret
        exact ⟨congrArg (fun z => Ending.returned (.bool z)) (dB_false (unhide Hb (by first | rfl | trivial))).symm, rfl⟩
      · go_wp2_with fail
        refine (unhide Hf _).mono ?_; rintro e w1 ⟨rfl, rfl⟩
        go_wp2
        go_roundw
        case rel => exact ⟨k + 1, by omega, by go_num, unhide Hn (by first | rfl | trivial), by first | rfl | trivial⟩
        case measure => simp [intOf]; omega
    · obtain rfl : k = xs.length := by omega
      have HE : Hid (dB ((∀ x ∈ xs, fives x = true) ∧ least ≤ (xs.length : Int)) = decide (least ≤ (xs.length : Int))) := by
        show _ = _
        have := unhide HW
        rw [List.take_length] at this
        rw [Bool.eq_iff_iff, dB_iff, decide_eq_true_eq]
        exact ⟨fun h => h.2, fun h => ⟨this, h⟩⟩
      clear HW
      go_wp2
      go_ret
      exact ⟨congrArg (fun z => Ending.returned (.bool z)) HE.out.symm, rfl⟩
set_option maxHeartbeats 1000000 in
theorem allSelect_calls (xs : List Int) (g off cap : Nat) (least : Int) (w : World) (hx : IntsAt w g off xs) (hl : xs.length ≤ 1048576) :
    Calls Tryz.prog 59 #[.slice (some ⟨g, off, none⟩) xs.length cap, .int .i64 least, .func (Fn.func 60) #[] #[]] w fun e w' => e = .returned (.bool (dB ((∀ x ∈ xs, sixes x = true) ∧ least ≤ (xs.length : Int)))) ∧ w' = w := by
  go_enter Tryz.func59, Tryz.ntmps59
  go_wp2
  go_loopw [8, 11] (fun _ i wr => ∃ k : Nat, k ≤ xs.length ∧ i = .int .i64 k ∧ (∀ x ∈ xs.take k, sixes x = true) ∧ wr = w) (fun _ i _ => xs.length - (intOf i).toNat)
  case atStart => exact ⟨0, Nat.zero_le _, rfl, fun x hx => by simp at hx, rfl⟩
  case round =>
    obtain ⟨k, hk, rfl, hw, rfl⟩ := hrel
    have HW := hide hw
    clear hw
    by_cases hlt : k < xs.length
    · have e0 := hx.at k hlt
      have j1 : (k : Int) < (xs.length : Int) := by omega
      have hnext : sixes xs[k] = true → ∀ x ∈ xs.take (k + 1), sixes x = true := fun h x hx => by
        rw [take_snocN xs k hlt] at hx
        rcases List.mem_append.1 hx with h' | h'
        · exact unhide HW x h'
        · simp at h'; subst h'; exact h
      have hbad : sixes xs[k] = false → ¬ ((∀ x ∈ xs, sixes x = true) ∧ least ≤ (xs.length : Int)) := fun h hh => by
        have := hh.1 xs[k] (List.getElem_mem hlt)
        rw [h] at this; cases this
      have Hn := hide hnext; have Hb := hide hbad
      clear hnext hbad
      have hf := fun w => isSelect_calls xs[k] w
      generalize xs[k] = c at *
      generalize sixes c = b at *
      have Hf := hide hf
      clear hf
      cases b
      · go_wp2_with fail
        refine (unhide Hf _).mono ?_; rintro e w1 ⟨rfl, rfl⟩
        go_wp2
        go_ret
        exact ⟨congrArg (fun z => Ending.returned (.bool z)) (dB_false (unhide Hb (by first | rfl | trivial))).symm, rfl⟩
      · go_wp2_with fail
        refine (unhide Hf _).mono ?_; rintro e w1 ⟨rfl, rfl⟩
        go_wp2
        go_roundw
        case rel => exact ⟨k + 1, by omega, by go_num, unhide Hn (by first | rfl | trivial), by first | rfl | trivial⟩
        case measure => simp [intOf]; omega
    · obtain rfl : k = xs.length := by omega
      have HE : Hid (dB ((∀ x ∈ xs, sixes x = true) ∧ least ≤ (xs.length : Int)) = decide (least ≤ (xs.length : Int))) := by
        show _ = _
        have := unhide HW
        rw [List.take_length] at this
        rw [Bool.eq_iff_iff, dB_iff, decide_eq_true_eq]
        exact ⟨fun h => h.2, fun h => ⟨this, h⟩⟩
      clear HW
      go_wp2
      go_ret
      exact ⟨congrArg (fun z => Ending.returned (.bool z)) HE.out.symm, rfl⟩
end Go.Proofs.YtmcbmmpjhijagaaGreatDoor
