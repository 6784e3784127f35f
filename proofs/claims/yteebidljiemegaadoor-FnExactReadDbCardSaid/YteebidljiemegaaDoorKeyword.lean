import Derived.Test.YteebidljiemegaaDoorNodeKit
namespace Go.Proofs.YteebidljiemegaaDoor
open Go Go.RowKit
set_option maxHeartbeats 4000000 in
theorem keyword_calls (s : ByteArray) (w : World) : Calls Tryd.prog 42 #[.string s] w fun e w' => e = .returned (.bool (decide (s.toList ∈ kws))) ∧ w' = w := by
  generalize hl : s.toList = l
  by_cases h0 : (l == [83, 69, 76, 69, 67, 84]) = true
  · have HE : Hid (decide (l ∈ kws) = true) := by show _ = _; rw [beq_iff_eq.1 h0]; rfl
    try simp only [Bool.not_eq_true] at *
    rw [← hl] at *
    go_enter Tryd.func42, Tryd.ntmps42
    go_wp2
    go_ret
    exact ⟨congrArg (fun z => Ending.returned (.bool z)) HE.out.symm, rfl⟩
  by_cases h1 : (l == [68, 73, 83, 84, 73, 78, 67, 84]) = true
  · have HE : Hid (decide (l ∈ kws) = true) := by show _ = _; rw [beq_iff_eq.1 h1]; rfl
    try simp only [Bool.not_eq_true] at *
    rw [← hl] at *
    go_enter Tryd.func42, Tryd.ntmps42
    go_wp2
    go_ret
    exact ⟨congrArg (fun z => Ending.returned (.bool z)) HE.out.symm, rfl⟩
  by_cases h2 : (l == [70, 82, 79, 77]) = true
  · have HE : Hid (decide (l ∈ kws) = true) := by show _ = _; rw [beq_iff_eq.1 h2]; rfl
    try simp only [Bool.not_eq_true] at *
    rw [← hl] at *
    go_enter Tryd.func42, Tryd.ntmps42
    go_wp2
    go_ret
    exact ⟨congrArg (fun z => Ending.returned (.bool z)) HE.out.symm, rfl⟩
  by_cases h3 : (l == [87, 72, 69, 82, 69]) = true
  · have HE : Hid (decide (l ∈ kws) = true) := by show _ = _; rw [beq_iff_eq.1 h3]; rfl
    try simp only [Bool.not_eq_true] at *
    rw [← hl] at *
    go_enter Tryd.func42, Tryd.ntmps42
    go_wp2
    go_ret
    exact ⟨congrArg (fun z => Ending.returned (.bool z)) HE.out.symm, rfl⟩
  by_cases h4 : (l == [85, 78, 73, 79, 78]) = true
  · have HE : Hid (decide (l ∈ kws) = true) := by show _ = _; rw [beq_iff_eq.1 h4]; rfl
    try simp only [Bool.not_eq_true] at *
    rw [← hl] at *
    go_enter Tryd.func42, Tryd.ntmps42
    go_wp2
    go_ret
    exact ⟨congrArg (fun z => Ending.returned (.bool z)) HE.out.symm, rfl⟩
  by_cases h5 : (l == [65, 76, 76]) = true
  · have HE : Hid (decide (l ∈ kws) = true) := by show _ = _; rw [beq_iff_eq.1 h5]; rfl
    try simp only [Bool.not_eq_true] at *
    rw [← hl] at *
    go_enter Tryd.func42, Tryd.ntmps42
    go_wp2
    go_ret
    exact ⟨congrArg (fun z => Ending.returned (.bool z)) HE.out.symm, rfl⟩
  by_cases h6 : (l == [65, 78, 89]) = true
  · have HE : Hid (decide (l ∈ kws) = true) := by show _ = _; rw [beq_iff_eq.1 h6]; rfl
    try simp only [Bool.not_eq_true] at *
    rw [← hl] at *
    go_enter Tryd.func42, Tryd.ntmps42
    go_wp2
    go_ret
    exact ⟨congrArg (fun z => Ending.returned (.bool z)) HE.out.symm, rfl⟩
  by_cases h7 : (l == [65, 78, 68]) = true
  · have HE : Hid (decide (l ∈ kws) = true) := by show _ = _; rw [beq_iff_eq.1 h7]; rfl
    try simp only [Bool.not_eq_true] at *
    rw [← hl] at *
    go_enter Tryd.func42, Tryd.ntmps42
    go_wp2
    go_ret
    exact ⟨congrArg (fun z => Ending.returned (.bool z)) HE.out.symm, rfl⟩
  by_cases h8 : (l == [79, 82]) = true
  · have HE : Hid (decide (l ∈ kws) = true) := by show _ = _; rw [beq_iff_eq.1 h8]; rfl
    try simp only [Bool.not_eq_true] at *
    rw [← hl] at *
    go_enter Tryd.func42, Tryd.ntmps42
    go_wp2
    go_ret
    exact ⟨congrArg (fun z => Ending.returned (.bool z)) HE.out.symm, rfl⟩
  by_cases h9 : (l == [78, 79, 84]) = true
  · have HE : Hid (decide (l ∈ kws) = true) := by show _ = _; rw [beq_iff_eq.1 h9]; rfl
    try simp only [Bool.not_eq_true] at *
    rw [← hl] at *
    go_enter Tryd.func42, Tryd.ntmps42
    go_wp2
    go_ret
    exact ⟨congrArg (fun z => Ending.returned (.bool z)) HE.out.symm, rfl⟩
  by_cases h10 : (l == [69, 88, 73, 83, 84, 83]) = true
  · have HE : Hid (decide (l ∈ kws) = true) := by show _ = _; rw [beq_iff_eq.1 h10]; rfl
    try simp only [Bool.not_eq_true] at *
    rw [← hl] at *
    go_enter Tryd.func42, Tryd.ntmps42
    go_wp2
    go_ret
    exact ⟨congrArg (fun z => Ending.returned (.bool z)) HE.out.symm, rfl⟩
  by_cases h11 : (l == [73, 78]) = true
  · have HE : Hid (decide (l ∈ kws) = true) := by show _ = _; rw [beq_iff_eq.1 h11]; rfl
    try simp only [Bool.not_eq_true] at *
    rw [← hl] at *
    go_enter Tryd.func42, Tryd.ntmps42
    go_wp2
    go_ret
    exact ⟨congrArg (fun z => Ending.returned (.bool z)) HE.out.symm, rfl⟩
  by_cases h12 : (l == [73, 83]) = true
  · have HE : Hid (decide (l ∈ kws) = true) := by show _ = _; rw [beq_iff_eq.1 h12]; rfl
    try simp only [Bool.not_eq_true] at *
    rw [← hl] at *
    go_enter Tryd.func42, Tryd.ntmps42
    go_wp2
    go_ret
    exact ⟨congrArg (fun z => Ending.returned (.bool z)) HE.out.symm, rfl⟩
  by_cases h13 : (l == [78, 85, 76, 76]) = true
  · have HE : Hid (decide (l ∈ kws) = true) := by show _ = _; rw [beq_iff_eq.1 h13]; rfl
    try simp only [Bool.not_eq_true] at *
    rw [← hl] at *
    go_enter Tryd.func42, Tryd.ntmps42
    go_wp2
    go_ret
    exact ⟨congrArg (fun z => Ending.returned (.bool z)) HE.out.symm, rfl⟩
  by_cases h14 : (l == [67, 79, 85, 78, 84]) = true
  · have HE : Hid (decide (l ∈ kws) = true) := by show _ = _; rw [beq_iff_eq.1 h14]; rfl
    try simp only [Bool.not_eq_true] at *
    rw [← hl] at *
    go_enter Tryd.func42, Tryd.ntmps42
    go_wp2
    go_ret
    exact ⟨congrArg (fun z => Ending.returned (.bool z)) HE.out.symm, rfl⟩
  by_cases h15 : (l == [77, 73, 78]) = true
  · have HE : Hid (decide (l ∈ kws) = true) := by show _ = _; rw [beq_iff_eq.1 h15]; rfl
    try simp only [Bool.not_eq_true] at *
    rw [← hl] at *
    go_enter Tryd.func42, Tryd.ntmps42
    go_wp2
    go_ret
    exact ⟨congrArg (fun z => Ending.returned (.bool z)) HE.out.symm, rfl⟩
  by_cases h16 : (l == [77, 65, 88]) = true
  · have HE : Hid (decide (l ∈ kws) = true) := by show _ = _; rw [beq_iff_eq.1 h16]; rfl
    try simp only [Bool.not_eq_true] at *
    rw [← hl] at *
    go_enter Tryd.func42, Tryd.ntmps42
    go_wp2
    go_ret
    exact ⟨congrArg (fun z => Ending.returned (.bool z)) HE.out.symm, rfl⟩
  have HE : Hid (decide (l ∈ kws) = false) := by
    show _ = _
    simp only [beq_iff_eq] at *
    simp [kws, *]
  simp only [Bool.not_eq_true] at *
  rw [← hl] at *
  go_enter Tryd.func42, Tryd.ntmps42
  go_wp2
  go_ret
  exact ⟨congrArg (fun z => Ending.returned (.bool z)) HE.out.symm, rfl⟩
end Go.Proofs.YteebidljiemegaaDoor
