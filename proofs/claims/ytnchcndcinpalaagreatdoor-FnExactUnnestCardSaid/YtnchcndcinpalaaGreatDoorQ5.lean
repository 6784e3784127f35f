import Derived.Test.YtnchcndcinpalaaGreatDoorQ4
import Derived.Test.YtnchcndcinpalaaGreatDoorQ0
namespace Go.Proofs.YtnchcndcinpalaaGreatDoor
open Go Go.RowKit
theorem byt_eq (s : ByteArray) (i : Nat) (h : i < s.size) : ((s[i]'h).toNat : Int) = byt s i := by
  unfold byt
  have hl : i < s.toList.length := by rw [size_toList]; exact h
  rw [List.getD_eq_getElem?_getD, List.getElem?_eq_getElem hl]
  congr 2
  cases s with | mk d =>
  simp [Go.ByteArray.toList_eq]
  rfl
def wordTo (s : ByteArray) (k : Nat) : Prop := ∀ i, i < k → letter (byt s i) = true ∨ (i ≠ 0 ∧ (digit (byt s i) = true ∨ byt s i = 95))
theorem word_iff (s : ByteArray) : WordB s ↔ (wordTo s s.size ∧ 0 < s.size) := by
  unfold WordB wordTo part
  constructor
  · intro ⟨h0, h1, h2⟩
    refine ⟨fun i hi => ?_, h0⟩
    by_cases e : i = 0
    · subst e; exact Or.inl h1
    · have := h2 i hi
      simp at this
      rcases this with (h | h) | h
      · exact Or.inl h
      · exact Or.inr ⟨e, Or.inl h⟩
      · exact Or.inr ⟨e, Or.inr h⟩
  · intro ⟨h1, h0⟩
    refine ⟨h0, ?_, fun i hi => ?_⟩
    · rcases h1 0 h0 with h | h
      · exact h
      · exact absurd rfl h.1
    · simp
      rcases h1 i hi with h | ⟨_, h | h⟩
      · exact Or.inl (Or.inl h)
      · exact Or.inl (Or.inr h)
      · exact Or.inr h
set_option maxHeartbeats 1000000 in
theorem isWord_calls (s : ByteArray) (w : World) (hs : s.size ≤ 1048576) : Calls Tryz.prog 117 #[.string s] w fun e w' => e = .returned (.bool (dB (WordB s))) ∧ w' = w := by
  go_enter Tryz.func117, Tryz.ntmps117
  go_wp2
  go_loopw [3] (fun i wr => ∃ k : Nat, k ≤ s.size ∧ i = .int .i64 k ∧ wordTo s k ∧ wr = w) (fun i _ => s.size - (intOf i).toNat)
  case atStart => exact ⟨0, Nat.zero_le _, rfl, fun i hi => by omega, rfl⟩
  case round =>
    obtain ⟨k, hk, rfl, hw, rfl⟩ := hrel
    have HW := hide hw
    clear hw
    by_cases hlt : k < s.size
    · have eb := byt_eq s k hlt
      have LC := fun w => letter_calls (byt s k) w
      have DC := fun w => digit_calls (byt s k) w
      have hnext : (letter (byt s k) = true ∨ (k ≠ 0 ∧ (digit (byt s k) = true ∨ byt s k = 95))) → wordTo s (k + 1) := fun h i hi => by
        by_cases e : i = k
        · subst e; exact h
        · exact unhide HW i (by omega)
      have hbad : ¬ (letter (byt s k) = true ∨ (k ≠ 0 ∧ (digit (byt s k) = true ∨ byt s k = 95))) → ¬ WordB s := fun h hh => h (((word_iff s).1 hh).1 k hlt)
      have Hn := hide hnext; have Hb := hide hbad
      clear hnext hbad
      generalize byt s k = c at *
      generalize letter c = l at *
      generalize digit c = d at *
      have HL := hide LC; have HD := hide DC
      clear LC DC
      have j1 : (k : Int) < (s.size : Int) := by omega
      cases l
      · by_cases h0 : k = 0
        · have h0' : ((k : Int) == 0) = true := by simp [h0]
          have H0 := hide h0
          clear h0
          go_wp2_with fail
          refine (unhide HL _).mono ?_; rintro e w1 ⟨rfl, rfl⟩
          go_wp2
          go_ret
          exact ⟨congrArg (fun z => Ending.returned (.bool z)) (dB_false (unhide Hb (by have h0 := unhide H0; simp [h0]))).symm, rfl⟩
        · have h0' : ((k : Int) == 0) = false := by simp; omega
          have H0 := hide h0
          clear h0
          cases d
          · by_cases h95 : c = 95
            · have h95' : (c != 95) = false := by simp [h95]
              have H95 := hide h95
              clear h95
              go_wp2_with fail
              refine (unhide HL _).mono ?_; rintro e w1 ⟨rfl, rfl⟩
              go_wp2_with fail
              refine (unhide HD _).mono ?_; rintro e w1 ⟨rfl, rfl⟩
              go_wp2
              go_roundw
              case rel => exact ⟨k + 1, by omega, by go_num, unhide Hn (by have h0 := unhide H0; have h95 := unhide H95; simp [h0, h95]), by first | rfl | trivial⟩
              case measure => simp [intOf]; omega
            · have h95' : (c != 95) = true := by simp [h95]
              have H95 := hide h95
              clear h95
              go_wp2_with fail
              refine (unhide HL _).mono ?_; rintro e w1 ⟨rfl, rfl⟩
              go_wp2_with fail
              refine (unhide HD _).mono ?_; rintro e w1 ⟨rfl, rfl⟩
              go_wp2
              go_ret
              exact ⟨congrArg (fun z => Ending.returned (.bool z)) (dB_false (unhide Hb (by have h95 := unhide H95; simp [h95]))).symm, rfl⟩
          · go_wp2_with fail
            refine (unhide HL _).mono ?_; rintro e w1 ⟨rfl, rfl⟩
            go_wp2_with fail
            refine (unhide HD _).mono ?_; rintro e w1 ⟨rfl, rfl⟩
            go_wp2
            go_roundw
            case rel => exact ⟨k + 1, by omega, by go_num, unhide Hn (by have h0 := unhide H0; simp [h0]), by first | rfl | trivial⟩
            case measure => simp [intOf]; omega
      · go_wp2_with fail
        refine (unhide HL _).mono ?_; rintro e w1 ⟨rfl, rfl⟩
        go_wp2
        go_roundw
        case rel => exact ⟨k + 1, by omega, by go_num, unhide Hn (by simp), by first | rfl | trivial⟩
        case measure => simp [intOf]; omega
    · obtain rfl : k = s.size := by omega
      have HE := word_iff s
      have H2 := hide HE
      clear HE
      by_cases h0 : 0 < s.size
      · have h0' : (0 : Int) < (s.size : Int) := by omega
        go_wp2
        go_ret
        exact ⟨congrArg (fun z => Ending.returned (.bool z)) (dB_true ((unhide H2).2 ⟨unhide HW, h0⟩)).symm, rfl⟩
      · have h0' : ¬ (0 : Int) < (s.size : Int) := by omega
        go_wp2
        go_ret
        exact ⟨congrArg (fun z => Ending.returned (.bool z)) (dB_false (fun h => absurd ((unhide H2).1 h).2 h0)).symm, rfl⟩
end Go.Proofs.YtnchcndcinpalaaGreatDoor
namespace Go.Proofs.YtnchcndcinpalaaGreatDoor
open Go Go.RowKit
set_option maxHeartbeats 4000000 in
theorem keyword_calls (s : ByteArray) (w : World) : Calls Tryz.prog 118 #[.string s] w fun e w' => e = .returned (.bool (decide (s.toList ∈ kws))) ∧ w' = w := by
  generalize hl : s.toList = l
  by_cases h0 : (l == [83, 69, 76, 69, 67, 84]) = true
  · have HE : Hid (decide (l ∈ kws) = true) := by show _ = _; rw [beq_iff_eq.1 h0]; rfl
    try simp only [Bool.not_eq_true] at *
    rw [← hl] at *
    go_enter Tryz.func118, Tryz.ntmps118
    go_wp2
    go_ret
    exact ⟨congrArg (fun z => Ending.returned (.bool z)) HE.out.symm, rfl⟩
  by_cases h1 : (l == [68, 73, 83, 84, 73, 78, 67, 84]) = true
  · have HE : Hid (decide (l ∈ kws) = true) := by show _ = _; rw [beq_iff_eq.1 h1]; rfl
    try simp only [Bool.not_eq_true] at *
    rw [← hl] at *
    go_enter Tryz.func118, Tryz.ntmps118
    go_wp2
    go_ret
    exact ⟨congrArg (fun z => Ending.returned (.bool z)) HE.out.symm, rfl⟩
  by_cases h2 : (l == [70, 82, 79, 77]) = true
  · have HE : Hid (decide (l ∈ kws) = true) := by show _ = _; rw [beq_iff_eq.1 h2]; rfl
    try simp only [Bool.not_eq_true] at *
    rw [← hl] at *
    go_enter Tryz.func118, Tryz.ntmps118
    go_wp2
    go_ret
    exact ⟨congrArg (fun z => Ending.returned (.bool z)) HE.out.symm, rfl⟩
  by_cases h3 : (l == [87, 72, 69, 82, 69]) = true
  · have HE : Hid (decide (l ∈ kws) = true) := by show _ = _; rw [beq_iff_eq.1 h3]; rfl
    try simp only [Bool.not_eq_true] at *
    rw [← hl] at *
    go_enter Tryz.func118, Tryz.ntmps118
    go_wp2
    go_ret
    exact ⟨congrArg (fun z => Ending.returned (.bool z)) HE.out.symm, rfl⟩
  by_cases h4 : (l == [85, 78, 73, 79, 78]) = true
  · have HE : Hid (decide (l ∈ kws) = true) := by show _ = _; rw [beq_iff_eq.1 h4]; rfl
    try simp only [Bool.not_eq_true] at *
    rw [← hl] at *
    go_enter Tryz.func118, Tryz.ntmps118
    go_wp2
    go_ret
    exact ⟨congrArg (fun z => Ending.returned (.bool z)) HE.out.symm, rfl⟩
  by_cases h5 : (l == [65, 76, 76]) = true
  · have HE : Hid (decide (l ∈ kws) = true) := by show _ = _; rw [beq_iff_eq.1 h5]; rfl
    try simp only [Bool.not_eq_true] at *
    rw [← hl] at *
    go_enter Tryz.func118, Tryz.ntmps118
    go_wp2
    go_ret
    exact ⟨congrArg (fun z => Ending.returned (.bool z)) HE.out.symm, rfl⟩
  by_cases h6 : (l == [65, 78, 89]) = true
  · have HE : Hid (decide (l ∈ kws) = true) := by show _ = _; rw [beq_iff_eq.1 h6]; rfl
    try simp only [Bool.not_eq_true] at *
    rw [← hl] at *
    go_enter Tryz.func118, Tryz.ntmps118
    go_wp2
    go_ret
    exact ⟨congrArg (fun z => Ending.returned (.bool z)) HE.out.symm, rfl⟩
  by_cases h7 : (l == [65, 78, 68]) = true
  · have HE : Hid (decide (l ∈ kws) = true) := by show _ = _; rw [beq_iff_eq.1 h7]; rfl
    try simp only [Bool.not_eq_true] at *
    rw [← hl] at *
    go_enter Tryz.func118, Tryz.ntmps118
    go_wp2
    go_ret
    exact ⟨congrArg (fun z => Ending.returned (.bool z)) HE.out.symm, rfl⟩
  by_cases h8 : (l == [79, 82]) = true
  · have HE : Hid (decide (l ∈ kws) = true) := by show _ = _; rw [beq_iff_eq.1 h8]; rfl
    try simp only [Bool.not_eq_true] at *
    rw [← hl] at *
    go_enter Tryz.func118, Tryz.ntmps118
    go_wp2
    go_ret
    exact ⟨congrArg (fun z => Ending.returned (.bool z)) HE.out.symm, rfl⟩
  by_cases h9 : (l == [78, 79, 84]) = true
  · have HE : Hid (decide (l ∈ kws) = true) := by show _ = _; rw [beq_iff_eq.1 h9]; rfl
    try simp only [Bool.not_eq_true] at *
    rw [← hl] at *
    go_enter Tryz.func118, Tryz.ntmps118
    go_wp2
    go_ret
    exact ⟨congrArg (fun z => Ending.returned (.bool z)) HE.out.symm, rfl⟩
  by_cases h10 : (l == [69, 88, 73, 83, 84, 83]) = true
  · have HE : Hid (decide (l ∈ kws) = true) := by show _ = _; rw [beq_iff_eq.1 h10]; rfl
    try simp only [Bool.not_eq_true] at *
    rw [← hl] at *
    go_enter Tryz.func118, Tryz.ntmps118
    go_wp2
    go_ret
    exact ⟨congrArg (fun z => Ending.returned (.bool z)) HE.out.symm, rfl⟩
  by_cases h11 : (l == [73, 78]) = true
  · have HE : Hid (decide (l ∈ kws) = true) := by show _ = _; rw [beq_iff_eq.1 h11]; rfl
    try simp only [Bool.not_eq_true] at *
    rw [← hl] at *
    go_enter Tryz.func118, Tryz.ntmps118
    go_wp2
    go_ret
    exact ⟨congrArg (fun z => Ending.returned (.bool z)) HE.out.symm, rfl⟩
  by_cases h12 : (l == [73, 83]) = true
  · have HE : Hid (decide (l ∈ kws) = true) := by show _ = _; rw [beq_iff_eq.1 h12]; rfl
    try simp only [Bool.not_eq_true] at *
    rw [← hl] at *
    go_enter Tryz.func118, Tryz.ntmps118
    go_wp2
    go_ret
    exact ⟨congrArg (fun z => Ending.returned (.bool z)) HE.out.symm, rfl⟩
  by_cases h13 : (l == [78, 85, 76, 76]) = true
  · have HE : Hid (decide (l ∈ kws) = true) := by show _ = _; rw [beq_iff_eq.1 h13]; rfl
    try simp only [Bool.not_eq_true] at *
    rw [← hl] at *
    go_enter Tryz.func118, Tryz.ntmps118
    go_wp2
    go_ret
    exact ⟨congrArg (fun z => Ending.returned (.bool z)) HE.out.symm, rfl⟩
  by_cases h14 : (l == [67, 79, 85, 78, 84]) = true
  · have HE : Hid (decide (l ∈ kws) = true) := by show _ = _; rw [beq_iff_eq.1 h14]; rfl
    try simp only [Bool.not_eq_true] at *
    rw [← hl] at *
    go_enter Tryz.func118, Tryz.ntmps118
    go_wp2
    go_ret
    exact ⟨congrArg (fun z => Ending.returned (.bool z)) HE.out.symm, rfl⟩
  by_cases h15 : (l == [77, 73, 78]) = true
  · have HE : Hid (decide (l ∈ kws) = true) := by show _ = _; rw [beq_iff_eq.1 h15]; rfl
    try simp only [Bool.not_eq_true] at *
    rw [← hl] at *
    go_enter Tryz.func118, Tryz.ntmps118
    go_wp2
    go_ret
    exact ⟨congrArg (fun z => Ending.returned (.bool z)) HE.out.symm, rfl⟩
  by_cases h16 : (l == [77, 65, 88]) = true
  · have HE : Hid (decide (l ∈ kws) = true) := by show _ = _; rw [beq_iff_eq.1 h16]; rfl
    try simp only [Bool.not_eq_true] at *
    rw [← hl] at *
    go_enter Tryz.func118, Tryz.ntmps118
    go_wp2
    go_ret
    exact ⟨congrArg (fun z => Ending.returned (.bool z)) HE.out.symm, rfl⟩
  have HE : Hid (decide (l ∈ kws) = false) := by
    show _ = _
    simp only [beq_iff_eq] at *
    simp [kws, *]
  simp only [Bool.not_eq_true] at *
  rw [← hl] at *
  go_enter Tryz.func118, Tryz.ntmps118
  go_wp2
  go_ret
  exact ⟨congrArg (fun z => Ending.returned (.bool z)) HE.out.symm, rfl⟩
end Go.Proofs.YtnchcndcinpalaaGreatDoor
namespace Go.Proofs.YtnchcndcinpalaaGreatDoor
open Go Go.RowKit
def kwB (k : Nat) : ByteArray := ⟨(kws.getD k []).toArray⟩
theorem kwB_toList (k : Nat) : (kwB k).toList = kws.getD k [] := Go.ByteArray.toList_mk _
abbrev TKw (w : World) : Prop := TabAt w 4 [.string ⟨#[83, 69, 76, 69, 67, 84]⟩, .string ⟨#[68, 73, 83, 84, 73, 78, 67, 84]⟩, .string ⟨#[70, 82, 79, 77]⟩, .string ⟨#[87, 72, 69, 82, 69]⟩, .string ⟨#[85, 78, 73, 79, 78]⟩, .string ⟨#[65, 76, 76]⟩, .string ⟨#[65, 78, 89]⟩, .string ⟨#[65, 78, 68]⟩, .string ⟨#[79, 82]⟩, .string ⟨#[78, 79, 84]⟩, .string ⟨#[69, 88, 73, 83, 84, 83]⟩, .string ⟨#[73, 78]⟩, .string ⟨#[73, 83]⟩, .string ⟨#[78, 85, 76, 76]⟩, .string ⟨#[67, 79, 85, 78, 84]⟩, .string ⟨#[77, 73, 78]⟩, .string ⟨#[77, 65, 88]⟩]
theorem kw_index (k : Nat) (hk : k < 17) (w : World) : (Instr.index 187 (.agg #[.string ⟨#[83, 69, 76, 69, 67, 84]⟩, .string ⟨#[68, 73, 83, 84, 73, 78, 67, 84]⟩, .string ⟨#[70, 82, 79, 77]⟩, .string ⟨#[87, 72, 69, 82, 69]⟩, .string ⟨#[85, 78, 73, 79, 78]⟩, .string ⟨#[65, 76, 76]⟩, .string ⟨#[65, 78, 89]⟩, .string ⟨#[65, 78, 68]⟩, .string ⟨#[79, 82]⟩, .string ⟨#[78, 79, 84]⟩, .string ⟨#[69, 88, 73, 83, 84, 83]⟩, .string ⟨#[73, 78]⟩, .string ⟨#[73, 83]⟩, .string ⟨#[78, 85, 76, 76]⟩, .string ⟨#[67, 79, 85, 78, 84]⟩, .string ⟨#[77, 73, 78]⟩, .string ⟨#[77, 65, 88]⟩]) (.int .i64 (k : Int))).run Tryz.prog w = .ok (.string (kwB k)) w := by
  rcases (show k = 0 ∨ k = 1 ∨ k = 2 ∨ k = 3 ∨ k = 4 ∨ k = 5 ∨ k = 6 ∨ k = 7 ∨ k = 8 ∨ k = 9 ∨ k = 10 ∨ k = 11 ∨ k = 12 ∨ k = 13 ∨ k = 14 ∨ k = 15 ∨ k = 16 from by omega) with rfl | rfl | rfl | rfl | rfl | rfl | rfl | rfl | rfl | rfl | rfl | rfl | rfl | rfl | rfl | rfl | rfl <;> kernel_rfl
set_option maxHeartbeats 4000000 in
theorem isKeyword_calls (s : ByteArray) (w : World) (hT : TKw w) : Calls Tryz.prog 134 #[.string s] w fun e w' => e = .returned (.bool (decide (s.toList ∈ kws))) ∧ w' = w := by
  have c0 : w.cell? ⟨4, 0, none⟩ = some (.string ⟨#[83, 69, 76, 69, 67, 84]⟩) := hT.cell 0
  have c1 : w.cell? ⟨4, 1, none⟩ = some (.string ⟨#[68, 73, 83, 84, 73, 78, 67, 84]⟩) := hT.cell 1
  have c2 : w.cell? ⟨4, 2, none⟩ = some (.string ⟨#[70, 82, 79, 77]⟩) := hT.cell 2
  have c3 : w.cell? ⟨4, 3, none⟩ = some (.string ⟨#[87, 72, 69, 82, 69]⟩) := hT.cell 3
  have c4 : w.cell? ⟨4, 4, none⟩ = some (.string ⟨#[85, 78, 73, 79, 78]⟩) := hT.cell 4
  have c5 : w.cell? ⟨4, 5, none⟩ = some (.string ⟨#[65, 76, 76]⟩) := hT.cell 5
  have c6 : w.cell? ⟨4, 6, none⟩ = some (.string ⟨#[65, 78, 89]⟩) := hT.cell 6
  have c7 : w.cell? ⟨4, 7, none⟩ = some (.string ⟨#[65, 78, 68]⟩) := hT.cell 7
  have c8 : w.cell? ⟨4, 8, none⟩ = some (.string ⟨#[79, 82]⟩) := hT.cell 8
  have c9 : w.cell? ⟨4, 9, none⟩ = some (.string ⟨#[78, 79, 84]⟩) := hT.cell 9
  have c10 : w.cell? ⟨4, 10, none⟩ = some (.string ⟨#[69, 88, 73, 83, 84, 83]⟩) := hT.cell 10
  have c11 : w.cell? ⟨4, 11, none⟩ = some (.string ⟨#[73, 78]⟩) := hT.cell 11
  have c12 : w.cell? ⟨4, 12, none⟩ = some (.string ⟨#[73, 83]⟩) := hT.cell 12
  have c13 : w.cell? ⟨4, 13, none⟩ = some (.string ⟨#[78, 85, 76, 76]⟩) := hT.cell 13
  have c14 : w.cell? ⟨4, 14, none⟩ = some (.string ⟨#[67, 79, 85, 78, 84]⟩) := hT.cell 14
  have c15 : w.cell? ⟨4, 15, none⟩ = some (.string ⟨#[77, 73, 78]⟩) := hT.cell 15
  have c16 : w.cell? ⟨4, 16, none⟩ = some (.string ⟨#[77, 65, 88]⟩) := hT.cell 16
  have hix := kw_index
  have hz := hT.size
  clear hT
  go_enter Tryz.func134, Tryz.ntmps134
  go_wp2
  go_loopw [4, 6] (fun _ i wr => ∃ k : Nat, k ≤ 17 ∧ i = .int .i64 k ∧ (∀ j, j < k → kws.getD j [] ≠ s.toList) ∧ wr = w) (fun _ i _ => 17 - (intOf i).toNat)
  case atStart => exact ⟨0, by omega, rfl, fun j hj => by omega, rfl⟩
  case round =>
    obtain ⟨k, hk, rfl, hno, rfl⟩ := hrel
    by_cases hlt : k < 17
    · have hi := hix k hlt
      clear hix
      by_cases he : kws.getD k [] = s.toList
      · have h1 : ((kwB k).toList == s.toList) = true := by rw [kwB_toList, he]; simp
        have HE : Hid (decide (s.toList ∈ kws) = true) := by
          show _ = _
          rw [decide_eq_true_eq, ← he]
          have : kws.length = 17 := rfl
          rw [List.getD_eq_getElem?_getD, List.getElem?_eq_getElem (by omega)]
          simp
        go_wp2
        go_ret
        exact ⟨congrArg (fun z => Ending.returned (.bool z)) HE.out.symm, rfl⟩
      · have h1 : ((kwB k).toList == s.toList) = false := by rw [kwB_toList]; exact beq_eq_false_iff_ne.2 he
        have Hno := hide hno
        have He := hide he
        clear hno he
        go_wp2
        go_roundw
        case rel =>
          refine ⟨k + 1, by omega, by go_num, fun j hj => ?_, by first | rfl | trivial⟩
          by_cases e : j = k
          · subst e; exact unhide He
          · exact unhide Hno j (by omega)
        case measure => simp [intOf]; omega
    · obtain rfl : k = 17 := by omega
      have HE : Hid (decide (s.toList ∈ kws) = false) := by
        show _ = _
        rw [decide_eq_false_iff_not]
        intro hm
        obtain ⟨j, hj, e⟩ := List.mem_iff_getElem.1 hm
        have : kws.length = 17 := rfl
        refine hno j (by omega) ?_
        rw [List.getD_eq_getElem?_getD, List.getElem?_eq_getElem hj]
        simpa using e
      go_wp2
      go_ret
      exact ⟨congrArg (fun z => Ending.returned (.bool z)) HE.out.symm, rfl⟩
end Go.Proofs.YtnchcndcinpalaaGreatDoor
namespace Go.Proofs.YtnchcndcinpalaaGreatDoor
open Go Go.RowKit
def spn (s : ByteArray) : Nat := (s.toList.takeWhile (fun b => part (b.toNat : Int))).length
theorem takeWhile_len {α : Type} (p : α → Bool) (d : α) : ∀ (l : List α) (k : Nat), (∀ i, i < k → p (l.getD i d) = true) → k ≤ l.length → (k = l.length ∨ p (l.getD k d) = false) → (l.takeWhile p).length = k
  | [], k, _, h2, _ => by simp at h2; subst h2; rfl
  | x :: l, 0, _, _, h3 => by
    rcases h3 with h | h
    · simp at h
    · simp at h
      simp [List.takeWhile, h]
  | x :: l, k + 1, h1, h2, h3 => by
    have hx : p x = true := by simpa using h1 0 (by omega)
    have := takeWhile_len p d l k (fun i hi => by simpa using h1 (i + 1) (by omega)) (by simpa using h2) (by simpa using h3)
    simp [List.takeWhile, hx, this]
theorem spn_eq (s : ByteArray) (k : Nat) (h1 : ∀ i, i < k → part (byt s i) = true) (h2 : k ≤ s.size) (h3 : k = s.size ∨ part (byt s k) = false) : spn s = k :=
  takeWhile_len _ 0 s.toList k h1 (by rw [size_toList]; exact h2) (by rw [size_toList]; exact h3)
theorem spn_le (s : ByteArray) : spn s ≤ s.size := by
  rw [← size_toList]
  exact (List.takeWhile_sublist _).length_le
theorem takeWhile_full {α : Type} (p : α → Bool) (d : α) : ∀ (l : List α), (l.takeWhile p).length = l.length → ∀ i, i < l.length → p (l.getD i d) = true
  | [], _, i, hi => by simp at hi
  | x :: l, h, i, hi => by
    cases hx : p x
    · simp [List.takeWhile, hx] at h
    · simp [List.takeWhile, hx] at h
      cases i with
      | zero => simpa using hx
      | succ i => simpa using takeWhile_full p d l h i (by simpa using hi)
theorem spn_full (s : ByteArray) (h : spn s = s.size) (i : Nat) (hi : i < s.size) : part (byt s i) = true :=
  takeWhile_full _ 0 s.toList (by rw [size_toList]; exact h) i (by rw [size_toList]; exact hi)
set_option maxHeartbeats 1000000 in
theorem spanLen_calls (s : ByteArray) (w : World) (hs : s.size ≤ 1048576) : Calls Tryz.prog 132 #[.string s, .func (Fn.func 133) #[] #[]] w fun e w' => e = .returned (.int .i64 (spn s)) ∧ w' = w := by
  go_enter Tryz.func132, Tryz.ntmps132
  go_wp2
  go_loopw [5] (fun i wr => ∃ k : Nat, k ≤ s.size ∧ i = .int .i64 k ∧ (∀ j, j < k → part (byt s j) = true) ∧ wr = w) (fun i _ => s.size - (intOf i).toNat)
  case atStart => exact ⟨0, Nat.zero_le _, rfl, fun i hi => by omega, rfl⟩
  case round =>
    obtain ⟨k, hk, rfl, hw, rfl⟩ := hrel
    have HW := hide hw
    clear hw
    by_cases hlt : k < s.size
    · have eb := byt_eq s k hlt
      have PC := fun w => isWordPart_calls (byt s k) w
      have j1 : (k : Int) < (s.size : Int) := by omega
      have hnext : part (byt s k) = true → ∀ j, j < k + 1 → part (byt s j) = true := fun h j hj => by
        by_cases e : j = k
        · subst e; exact h
        · exact unhide HW j (by omega)
      have hend : part (byt s k) = false → spn s = k := fun h => spn_eq s k (unhide HW) hk (Or.inr h)
      have Hn := hide hnext; have He := hide hend
      clear hnext hend
      generalize byt s k = c at *
      generalize part c = p at *
      have HP := hide PC
      clear PC
      cases p
      · go_wp2_with fail
        refine (unhide HP _).mono ?_; rintro e w1 ⟨rfl, rfl⟩
        go_wp2
        go_ret
        exact ⟨congrArg (fun z : Nat => Ending.returned (.int .i64 (z : Int))) (unhide He (by first | rfl | trivial)).symm, rfl⟩
      · go_wp2_with fail
        refine (unhide HP _).mono ?_; rintro e w1 ⟨rfl, rfl⟩
        go_wp2
        go_roundw
        case rel => exact ⟨k + 1, by omega, by go_num, unhide Hn (by first | rfl | trivial), by first | rfl | trivial⟩
        case measure => simp [intOf]; omega
    · obtain rfl : k = s.size := by omega
      have He := hide (spn_eq s s.size (unhide HW) hk (Or.inl rfl))
      go_wp2
      go_ret
      exact ⟨congrArg (fun z : Nat => Ending.returned (.int .i64 (z : Int))) (unhide He).symm, rfl⟩
theorem name_iff (s : ByteArray) : NameB s ↔ (s.toList ≠ [] ∧ s.size ≤ 64 ∧ letter (byt s 0) = true ∧ spn s = s.size ∧ s.toList ∉ kws) := by
  unfold NameB WordB
  constructor
  · intro ⟨⟨h0, h1, h2⟩, h3, h4⟩
    refine ⟨fun e => ?_, h3, h1, spn_eq s _ h2 (Nat.le_refl _) (Or.inl rfl), h4⟩
    rw [← size_toList, e] at h0
    simp at h0
  · intro ⟨h0, h3, h1, h2, h4⟩
    refine ⟨⟨?_, h1, spn_full s h2⟩, h3, h4⟩
    rw [← size_toList]
    exact List.length_pos_iff.2 h0
set_option maxHeartbeats 1000000 in
theorem sIsName_calls (s : ByteArray) (w : World) (hs : s.size ≤ 1048576) : Calls Tryz.prog 93 #[.string s] w fun e w' => e = .returned (.bool (dB (NameB s))) ∧ w' = w := by
  have WC := fun w => isWord_calls s w hs
  have KC := fun w => keyword_calls s w
  have HN : Hid (NameB s ↔ (dB (WordB s) = true ∧ s.size ≤ 64 ∧ ¬ decide (s.toList ∈ kws) = true)) := by
    show _ ↔ _
    rw [dB_iff]; unfold NameB; simp
  generalize dB (WordB s) = b at *
  generalize decide (s.toList ∈ kws) = k at *
  have HW := hide WC; have HK := hide KC
  clear WC KC
  cases b
  · have HE : Hid (dB (NameB s) = false) := dB_false (fun h => by have := (HN.out.1 h).1; simp at this)
    clear HN
    go_enter Tryz.func93, Tryz.ntmps93
    go_wp2_with fail
    refine (unhide HW _).mono ?_; rintro e w1 ⟨rfl, rfl⟩
    go_wp2
    go_ret
    exact ⟨congrArg (fun z => Ending.returned (.bool z)) HE.out.symm, rfl⟩
  · by_cases h64 : (s.size : Int) ≤ 64
    · cases k
      · have HE : Hid (dB (NameB s) = true) := dB_true (HN.out.2 ⟨rfl, by omega, by simp⟩)
        clear HN
        go_enter Tryz.func93, Tryz.ntmps93
        go_wp2_with fail
        refine (unhide HW _).mono ?_; rintro e w1 ⟨rfl, rfl⟩
        go_wp2_with fail
        refine (unhide HK _).mono ?_; rintro e w1 ⟨rfl, rfl⟩
        go_wp2
        go_ret
        exact ⟨congrArg (fun z => Ending.returned (.bool z)) HE.out.symm, rfl⟩
      · have HE : Hid (dB (NameB s) = false) := dB_false (fun h => by have := (HN.out.1 h).2.2; simp at this)
        clear HN
        go_enter Tryz.func93, Tryz.ntmps93
        go_wp2_with fail
        refine (unhide HW _).mono ?_; rintro e w1 ⟨rfl, rfl⟩
        go_wp2_with fail
        refine (unhide HK _).mono ?_; rintro e w1 ⟨rfl, rfl⟩
        go_wp2
        go_ret
        exact ⟨congrArg (fun z => Ending.returned (.bool z)) HE.out.symm, rfl⟩
    · have HE : Hid (dB (NameB s) = false) := dB_false (fun h => by have := (HN.out.1 h).2.1; omega)
      clear HN
      go_enter Tryz.func93, Tryz.ntmps93
      go_wp2_with fail
      refine (unhide HW _).mono ?_; rintro e w1 ⟨rfl, rfl⟩
      go_wp2
      go_ret
      exact ⟨congrArg (fun z => Ending.returned (.bool z)) HE.out.symm, rfl⟩
end Go.Proofs.YtnchcndcinpalaaGreatDoor
