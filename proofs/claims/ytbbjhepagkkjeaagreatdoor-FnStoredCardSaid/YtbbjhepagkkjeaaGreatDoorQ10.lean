import Derived.Test.YtbbjhepagkkjeaaGreatDoorQ8
namespace Go.Proofs.YtbbjhepagkkjeaaGreatDoor
open Go Go.RowKit
theorem letter_calls (c : Int) (w : World) : Calls Tryz.prog 104 #[.int .u8 c] w fun e w' => e = .returned (.bool (letter c)) ∧ w' = w := by
  by_cases h1 : 65 ≤ c
  · by_cases h2 : c ≤ 90
    · have HE : Hid (letter c = true) := by show _ = _; simp [letter, h1, h2]
      go_enter Tryz.func104, Tryz.ntmps104
      go_wp2
      go_ret
      exact ⟨congrArg (fun z => Ending.returned (.bool z)) HE.out.symm, rfl⟩
    · by_cases h3 : 97 ≤ c
      · have HE : Hid (letter c = decide (c ≤ 122)) := by show _ = _; simp [letter, h2, h3]
        go_enter Tryz.func104, Tryz.ntmps104
        go_wp2
        go_ret
        exact ⟨congrArg (fun z => Ending.returned (.bool z)) HE.out.symm, rfl⟩
      · have HE : Hid (letter c = false) := by show _ = _; simp [letter, h2, h3]
        go_enter Tryz.func104, Tryz.ntmps104
        go_wp2
        go_ret
        exact ⟨congrArg (fun z => Ending.returned (.bool z)) HE.out.symm, rfl⟩
  · have h3 : ¬ 97 ≤ c := by omega
    have HE : Hid (letter c = false) := by show _ = _; simp [letter, h1, h3]
    go_enter Tryz.func104, Tryz.ntmps104
    go_wp2
    go_ret
    exact ⟨congrArg (fun z => Ending.returned (.bool z)) HE.out.symm, rfl⟩
theorem digit_calls (c : Int) (w : World) : Calls Tryz.prog 40 #[.int .u8 c] w fun e w' => e = .returned (.bool (digit c)) ∧ w' = w := by
  by_cases h1 : 48 ≤ c
  · have HE : Hid (digit c = decide (c ≤ 57)) := by show _ = _; simp [digit, h1]
    go_enter Tryz.func40, Tryz.ntmps40
    go_wp2
    go_ret
    exact ⟨congrArg (fun z => Ending.returned (.bool z)) HE.out.symm, rfl⟩
  · have HE : Hid (digit c = false) := by show _ = _; simp [digit, h1]
    go_enter Tryz.func40, Tryz.ntmps40
    go_wp2
    go_ret
    exact ⟨congrArg (fun z => Ending.returned (.bool z)) HE.out.symm, rfl⟩
theorem isLetter_calls (c : Int) (w : World) : Calls Tryz.prog 85 #[.int .u8 c] w fun e w' => e = .returned (.bool (letter c)) ∧ w' = w := by
  by_cases h1 : 65 ≤ c
  · by_cases h2 : c ≤ 90
    · have HE : Hid (letter c = true) := by show _ = _; simp [letter, h1, h2]
      go_enter Tryz.func85, Tryz.ntmps85
      go_wp2
      go_ret
      exact ⟨congrArg (fun z => Ending.returned (.bool z)) HE.out.symm, rfl⟩
    · by_cases h3 : 97 ≤ c
      · have HE : Hid (letter c = decide (c ≤ 122)) := by show _ = _; simp [letter, h2, h3]
        go_enter Tryz.func85, Tryz.ntmps85
        go_wp2
        go_ret
        exact ⟨congrArg (fun z => Ending.returned (.bool z)) HE.out.symm, rfl⟩
      · have HE : Hid (letter c = false) := by show _ = _; simp [letter, h2, h3]
        go_enter Tryz.func85, Tryz.ntmps85
        go_wp2
        go_ret
        exact ⟨congrArg (fun z => Ending.returned (.bool z)) HE.out.symm, rfl⟩
  · have h3 : ¬ 97 ≤ c := by omega
    have HE : Hid (letter c = false) := by show _ = _; simp [letter, h1, h3]
    go_enter Tryz.func85, Tryz.ntmps85
    go_wp2
    go_ret
    exact ⟨congrArg (fun z => Ending.returned (.bool z)) HE.out.symm, rfl⟩
theorem isDigit_calls (c : Int) (w : World) : Calls Tryz.prog 108 #[.int .u8 c] w fun e w' => e = .returned (.bool (digit c)) ∧ w' = w := by
  by_cases h1 : 48 ≤ c
  · have HE : Hid (digit c = decide (c ≤ 57)) := by show _ = _; simp [digit, h1]
    go_enter Tryz.func108, Tryz.ntmps108
    go_wp2
    go_ret
    exact ⟨congrArg (fun z => Ending.returned (.bool z)) HE.out.symm, rfl⟩
  · have HE : Hid (digit c = false) := by show _ = _; simp [digit, h1]
    go_enter Tryz.func108, Tryz.ntmps108
    go_wp2
    go_ret
    exact ⟨congrArg (fun z => Ending.returned (.bool z)) HE.out.symm, rfl⟩
theorem isWordPart_calls (c : Int) (w : World) : Calls Tryz.prog 87 #[.int .u8 c] w fun e w' => e = .returned (.bool (part c)) ∧ w' = w := by
  have L := fun w => isLetter_calls c w
  have D := fun w => isDigit_calls c w
  have HE : Hid (part c = (letter c || digit c || decide (c = 95))) := rfl
  generalize letter c = l at *
  generalize digit c = d at *
  have HL := hide L; have HD := hide D
  clear L D
  cases l
  · cases d
    · by_cases h : c = 95
      · subst h
        go_enter Tryz.func87, Tryz.ntmps87
        go_wp2_with fail
        refine (unhide HL _).mono ?_; rintro e w1 ⟨rfl, rfl⟩
        go_wp2_with fail
        refine (unhide HD _).mono ?_; rintro e w1 ⟨rfl, rfl⟩
        go_wp2
        go_ret
        exact ⟨congrArg (fun z => Ending.returned (.bool z)) HE.out.symm, rfl⟩
      · have h' : (c == 95) = false := beq_eq_false_iff_ne.2 h
        have HE' : Hid (part c = false) := by show _ = _; rw [HE.out]; simp [h]
        clear HE
        go_enter Tryz.func87, Tryz.ntmps87
        go_wp2_with fail
        refine (unhide HL _).mono ?_; rintro e w1 ⟨rfl, rfl⟩
        go_wp2_with fail
        refine (unhide HD _).mono ?_; rintro e w1 ⟨rfl, rfl⟩
        go_wp2
        go_ret
        exact ⟨congrArg (fun z => Ending.returned (.bool z)) HE'.out.symm, rfl⟩
    · have HE' : Hid (part c = true) := by show _ = _; rw [HE.out]; simp
      clear HE
      go_enter Tryz.func87, Tryz.ntmps87
      go_wp2_with fail
      refine (unhide HL _).mono ?_; rintro e w1 ⟨rfl, rfl⟩
      go_wp2_with fail
      refine (unhide HD _).mono ?_; rintro e w1 ⟨rfl, rfl⟩
      go_wp2
      go_ret
      exact ⟨congrArg (fun z => Ending.returned (.bool z)) HE'.out.symm, rfl⟩
  · have HE' : Hid (part c = true) := by show _ = _; rw [HE.out]; simp
    clear HE
    go_enter Tryz.func87, Tryz.ntmps87
    go_wp2_with fail
    refine (unhide HL _).mono ?_; rintro e w1 ⟨rfl, rfl⟩
    go_wp2
    go_ret
    exact ⟨congrArg (fun z => Ending.returned (.bool z)) HE'.out.symm, rfl⟩
end Go.Proofs.YtbbjhepagkkjeaaGreatDoor
namespace Go.Proofs.YtbbjhepagkkjeaaGreatDoor
open Go Go.RowKit
theorem byt_eq (s : ByteArray) (i : Nat) (h : i < s.size) : ((s[i]'h).toNat : Int) = byt s i := by
  unfold byt
  have hl : i < s.toList.length := by rw [size_toList]; exact h
  rw [List.getD_eq_getElem?_getD, List.getElem?_eq_getElem hl]
  congr 2
  cases s with | mk d =>
  simp [Go.ByteArray.toList_eq]
  rfl
def wordTo (s : ByteArray) (k : Nat) : Prop := ∀ i, i < k → letter (byt s i) = true ∨ (i ≠ 0 ∧ (digit (byt s i) = true ∨ byt s i = 95))
theorem word_iff (s : ByteArray) : WordB s ↔ (wordTo s s.size ∧ 0 < s.size) := by
  unfold WordB wordTo part
  constructor
  · intro ⟨h0, h1, h2⟩
    refine ⟨fun i hi => ?_, h0⟩
    by_cases e : i = 0
    · subst e; exact Or.inl h1
    · have := h2 i hi
      simp at this
      rcases this with (h | h) | h
      · exact Or.inl h
      · exact Or.inr ⟨e, Or.inl h⟩
      · exact Or.inr ⟨e, Or.inr h⟩
  · intro ⟨h1, h0⟩
    refine ⟨h0, ?_, fun i hi => ?_⟩
    · rcases h1 0 h0 with h | h
      · exact h
      · exact absurd rfl h.1
    · simp
      rcases h1 i hi with h | ⟨_, h | h⟩
      · exact Or.inl (Or.inl h)
      · exact Or.inl (Or.inr h)
      · exact Or.inr h
set_option maxHeartbeats 1000000 in
theorem isWord_calls (s : ByteArray) (w : World) (hs : s.size ≤ 1048576) : Calls Tryz.prog 77 #[.string s] w fun e w' => e = .returned (.bool (dB (WordB s))) ∧ w' = w := by
  go_enter Tryz.func77, Tryz.ntmps77
  go_wp2
  go_loopw [3] (fun i wr => ∃ k : Nat, k ≤ s.size ∧ i = .int .i64 k ∧ wordTo s k ∧ wr = w) (fun i _ => s.size - (intOf i).toNat)
  case atStart => exact ⟨0, Nat.zero_le _, rfl, fun i hi => by omega, rfl⟩
  case round =>
    obtain ⟨k, hk, rfl, hw, rfl⟩ := hrel
    have HW := hide hw
    clear hw
    by_cases hlt : k < s.size
    · have eb := byt_eq s k hlt
      have LC := fun w => letter_calls (byt s k) w
      have DC := fun w => digit_calls (byt s k) w
      have hnext : (letter (byt s k) = true ∨ (k ≠ 0 ∧ (digit (byt s k) = true ∨ byt s k = 95))) → wordTo s (k + 1) := fun h i hi => by
        by_cases e : i = k
        · subst e; exact h
        · exact unhide HW i (by omega)
      have hbad : ¬ (letter (byt s k) = true ∨ (k ≠ 0 ∧ (digit (byt s k) = true ∨ byt s k = 95))) → ¬ WordB s := fun h hh => h (((word_iff s).1 hh).1 k hlt)
      have Hn := hide hnext; have Hb := hide hbad
      clear hnext hbad
      generalize byt s k = c at *
      generalize letter c = l at *
      generalize digit c = d at *
      have HL := hide LC; have HD := hide DC
      clear LC DC
      have j1 : (k : Int) < (s.size : Int) := by omega
      cases l
      · by_cases h0 : k = 0
        · have h0' : ((k : Int) == 0) = true := by simp [h0]
          have H0 := hide h0
          clear h0
          go_wp2_with fail
          refine (unhide HL _).mono ?_; rintro e w1 ⟨rfl, rfl⟩
          go_wp2
          go_ret
          exact ⟨congrArg (fun z => Ending.returned (.bool z)) (dB_false (unhide Hb (by have h0 := unhide H0; simp [h0]))).symm, rfl⟩
        · have h0' : ((k : Int) == 0) = false := by simp; omega
          have H0 := hide h0
          clear h0
          cases d
          · by_cases h95 : c = 95
            · have h95' : (c != 95) = false := by simp [h95]
              have H95 := hide h95
              clear h95
              go_wp2_with fail
              refine (unhide HL _).mono ?_; rintro e w1 ⟨rfl, rfl⟩
              go_wp2_with fail
              refine (unhide HD _).mono ?_; rintro e w1 ⟨rfl, rfl⟩
              go_wp2
              go_roundw
              case rel => exact ⟨k + 1, by omega, by go_num, unhide Hn (by have h0 := unhide H0; have h95 := unhide H95; simp [h0, h95]), by first | rfl | trivial⟩
              case measure => simp [intOf]; omega
            · have h95' : (c != 95) = true := by simp [h95]
              have H95 := hide h95
              clear h95
              go_wp2_with fail
              refine (unhide HL _).mono ?_; rintro e w1 ⟨rfl, rfl⟩
              go_wp2_with fail
              refine (unhide HD _).mono ?_; rintro e w1 ⟨rfl, rfl⟩
              go_wp2
              go_ret
              exact ⟨congrArg (fun z => Ending.returned (.bool z)) (dB_false (unhide Hb (by have h95 := unhide H95; simp [h95]))).symm, rfl⟩
          · go_wp2_with fail
            refine (unhide HL _).mono ?_; rintro e w1 ⟨rfl, rfl⟩
            go_wp2_with fail
            refine (unhide HD _).mono ?_; rintro e w1 ⟨rfl, rfl⟩
            go_wp2
            go_roundw
            case rel => exact ⟨k + 1, by omega, by go_num, unhide Hn (by have h0 := unhide H0; simp [h0]), by first | rfl | trivial⟩
            case measure => simp [intOf]; omega
      · go_wp2_with fail
        refine (unhide HL _).mono ?_; rintro e w1 ⟨rfl, rfl⟩
        go_wp2
        go_roundw
        case rel => exact ⟨k + 1, by omega, by go_num, unhide Hn (by simp), by first | rfl | trivial⟩
        case measure => simp [intOf]; omega
    · obtain rfl : k = s.size := by omega
      have HE := word_iff s
      have H2 := hide HE
      clear HE
      by_cases h0 : 0 < s.size
      · have h0' : (0 : Int) < (s.size : Int) := by omega
        go_wp2
        go_ret
        exact ⟨congrArg (fun z => Ending.returned (.bool z)) (dB_true ((unhide H2).2 ⟨unhide HW, h0⟩)).symm, rfl⟩
      · have h0' : ¬ (0 : Int) < (s.size : Int) := by omega
        go_wp2
        go_ret
        exact ⟨congrArg (fun z => Ending.returned (.bool z)) (dB_false (fun h => absurd ((unhide H2).1 h).2 h0)).symm, rfl⟩
end Go.Proofs.YtbbjhepagkkjeaaGreatDoor
namespace Go.Proofs.YtbbjhepagkkjeaaGreatDoor
open Go Go.RowKit
set_option maxHeartbeats 4000000 in
theorem keyword_calls (s : ByteArray) (w : World) : Calls Tryz.prog 78 #[.string s] w fun e w' => e = .returned (.bool (decide (s.toList ∈ kws))) ∧ w' = w := by
  generalize hl : s.toList = l
  by_cases h0 : (l == [83, 69, 76, 69, 67, 84]) = true
  · have HE : Hid (decide (l ∈ kws) = true) := by show _ = _; rw [beq_iff_eq.1 h0]; rfl
    try simp only [Bool.not_eq_true] at *
    rw [← hl] at *
    go_enter Tryz.func78, Tryz.ntmps78
    go_wp2
    go_ret
    exact ⟨congrArg (fun z => Ending.returned (.bool z)) HE.out.symm, rfl⟩
  by_cases h1 : (l == [68, 73, 83, 84, 73, 78, 67, 84]) = true
  · have HE : Hid (decide (l ∈ kws) = true) := by show _ = _; rw [beq_iff_eq.1 h1]; rfl
    try simp only [Bool.not_eq_true] at *
    rw [← hl] at *
    go_enter Tryz.func78, Tryz.ntmps78
    go_wp2
    go_ret
    exact ⟨congrArg (fun z => Ending.returned (.bool z)) HE.out.symm, rfl⟩
  by_cases h2 : (l == [70, 82, 79, 77]) = true
  · have HE : Hid (decide (l ∈ kws) = true) := by show _ = _; rw [beq_iff_eq.1 h2]; rfl
    try simp only [Bool.not_eq_true] at *
    rw [← hl] at *
    go_enter Tryz.func78, Tryz.ntmps78
    go_wp2
    go_ret
    exact ⟨congrArg (fun z => Ending.returned (.bool z)) HE.out.symm, rfl⟩
  by_cases h3 : (l == [87, 72, 69, 82, 69]) = true
  · have HE : Hid (decide (l ∈ kws) = true) := by show _ = _; rw [beq_iff_eq.1 h3]; rfl
    try simp only [Bool.not_eq_true] at *
    rw [← hl] at *
    go_enter Tryz.func78, Tryz.ntmps78
    go_wp2
    go_ret
    exact ⟨congrArg (fun z => Ending.returned (.bool z)) HE.out.symm, rfl⟩
  by_cases h4 : (l == [85, 78, 73, 79, 78]) = true
  · have HE : Hid (decide (l ∈ kws) = true) := by show _ = _; rw [beq_iff_eq.1 h4]; rfl
    try simp only [Bool.not_eq_true] at *
    rw [← hl] at *
    go_enter Tryz.func78, Tryz.ntmps78
    go_wp2
    go_ret
    exact ⟨congrArg (fun z => Ending.returned (.bool z)) HE.out.symm, rfl⟩
  by_cases h5 : (l == [65, 76, 76]) = true
  · have HE : Hid (decide (l ∈ kws) = true) := by show _ = _; rw [beq_iff_eq.1 h5]; rfl
    try simp only [Bool.not_eq_true] at *
    rw [← hl] at *
    go_enter Tryz.func78, Tryz.ntmps78
    go_wp2
    go_ret
    exact ⟨congrArg (fun z => Ending.returned (.bool z)) HE.out.symm, rfl⟩
  by_cases h6 : (l == [65, 78, 89]) = true
  · have HE : Hid (decide (l ∈ kws) = true) := by show _ = _; rw [beq_iff_eq.1 h6]; rfl
    try simp only [Bool.not_eq_true] at *
    rw [← hl] at *
    go_enter Tryz.func78, Tryz.ntmps78
    go_wp2
    go_ret
    exact ⟨congrArg (fun z => Ending.returned (.bool z)) HE.out.symm, rfl⟩
  by_cases h7 : (l == [65, 78, 68]) = true
  · have HE : Hid (decide (l ∈ kws) = true) := by show _ = _; rw [beq_iff_eq.1 h7]; rfl
    try simp only [Bool.not_eq_true] at *
    rw [← hl] at *
    go_enter Tryz.func78, Tryz.ntmps78
    go_wp2
    go_ret
    exact ⟨congrArg (fun z => Ending.returned (.bool z)) HE.out.symm, rfl⟩
  by_cases h8 : (l == [79, 82]) = true
  · have HE : Hid (decide (l ∈ kws) = true) := by show _ = _; rw [beq_iff_eq.1 h8]; rfl
    try simp only [Bool.not_eq_true] at *
    rw [← hl] at *
    go_enter Tryz.func78, Tryz.ntmps78
    go_wp2
    go_ret
    exact ⟨congrArg (fun z => Ending.returned (.bool z)) HE.out.symm, rfl⟩
  by_cases h9 : (l == [78, 79, 84]) = true
  · have HE : Hid (decide (l ∈ kws) = true) := by show _ = _; rw [beq_iff_eq.1 h9]; rfl
    try simp only [Bool.not_eq_true] at *
    rw [← hl] at *
    go_enter Tryz.func78, Tryz.ntmps78
    go_wp2
    go_ret
    exact ⟨congrArg (fun z => Ending.returned (.bool z)) HE.out.symm, rfl⟩
  by_cases h10 : (l == [69, 88, 73, 83, 84, 83]) = true
  · have HE : Hid (decide (l ∈ kws) = true) := by show _ = _; rw [beq_iff_eq.1 h10]; rfl
    try simp only [Bool.not_eq_true] at *
    rw [← hl] at *
    go_enter Tryz.func78, Tryz.ntmps78
    go_wp2
    go_ret
    exact ⟨congrArg (fun z => Ending.returned (.bool z)) HE.out.symm, rfl⟩
  by_cases h11 : (l == [73, 78]) = true
  · have HE : Hid (decide (l ∈ kws) = true) := by show _ = _; rw [beq_iff_eq.1 h11]; rfl
    try simp only [Bool.not_eq_true] at *
    rw [← hl] at *
    go_enter Tryz.func78, Tryz.ntmps78
    go_wp2
    go_ret
    exact ⟨congrArg (fun z => Ending.returned (.bool z)) HE.out.symm, rfl⟩
  by_cases h12 : (l == [73, 83]) = true
  · have HE : Hid (decide (l ∈ kws) = true) := by show _ = _; rw [beq_iff_eq.1 h12]; rfl
    try simp only [Bool.not_eq_true] at *
    rw [← hl] at *
    go_enter Tryz.func78, Tryz.ntmps78
    go_wp2
    go_ret
    exact ⟨congrArg (fun z => Ending.returned (.bool z)) HE.out.symm, rfl⟩
  by_cases h13 : (l == [78, 85, 76, 76]) = true
  · have HE : Hid (decide (l ∈ kws) = true) := by show _ = _; rw [beq_iff_eq.1 h13]; rfl
    try simp only [Bool.not_eq_true] at *
    rw [← hl] at *
    go_enter Tryz.func78, Tryz.ntmps78
    go_wp2
    go_ret
    exact ⟨congrArg (fun z => Ending.returned (.bool z)) HE.out.symm, rfl⟩
  by_cases h14 : (l == [67, 79, 85, 78, 84]) = true
  · have HE : Hid (decide (l ∈ kws) = true) := by show _ = _; rw [beq_iff_eq.1 h14]; rfl
    try simp only [Bool.not_eq_true] at *
    rw [← hl] at *
    go_enter Tryz.func78, Tryz.ntmps78
    go_wp2
    go_ret
    exact ⟨congrArg (fun z => Ending.returned (.bool z)) HE.out.symm, rfl⟩
  by_cases h15 : (l == [77, 73, 78]) = true
  · have HE : Hid (decide (l ∈ kws) = true) := by show _ = _; rw [beq_iff_eq.1 h15]; rfl
    try simp only [Bool.not_eq_true] at *
    rw [← hl] at *
    go_enter Tryz.func78, Tryz.ntmps78
    go_wp2
    go_ret
    exact ⟨congrArg (fun z => Ending.returned (.bool z)) HE.out.symm, rfl⟩
  by_cases h16 : (l == [77, 65, 88]) = true
  · have HE : Hid (decide (l ∈ kws) = true) := by show _ = _; rw [beq_iff_eq.1 h16]; rfl
    try simp only [Bool.not_eq_true] at *
    rw [← hl] at *
    go_enter Tryz.func78, Tryz.ntmps78
    go_wp2
    go_ret
    exact ⟨congrArg (fun z => Ending.returned (.bool z)) HE.out.symm, rfl⟩
  have HE : Hid (decide (l ∈ kws) = false) := by
    show _ = _
    simp only [beq_iff_eq] at *
    simp [kws, *]
  simp only [Bool.not_eq_true] at *
  rw [← hl] at *
  go_enter Tryz.func78, Tryz.ntmps78
  go_wp2
  go_ret
  exact ⟨congrArg (fun z => Ending.returned (.bool z)) HE.out.symm, rfl⟩
end Go.Proofs.YtbbjhepagkkjeaaGreatDoor
namespace Go.Proofs.YtbbjhepagkkjeaaGreatDoor
open Go Go.RowKit
def kwB (k : Nat) : ByteArray := ⟨(kws.getD k []).toArray⟩
theorem kwB_toList (k : Nat) : (kwB k).toList = kws.getD k [] := Go.ByteArray.toList_mk _
abbrev TKw (w : World) : Prop := TabAt w 1 [.string ⟨#[83, 69, 76, 69, 67, 84]⟩, .string ⟨#[68, 73, 83, 84, 73, 78, 67, 84]⟩, .string ⟨#[70, 82, 79, 77]⟩, .string ⟨#[87, 72, 69, 82, 69]⟩, .string ⟨#[85, 78, 73, 79, 78]⟩, .string ⟨#[65, 76, 76]⟩, .string ⟨#[65, 78, 89]⟩, .string ⟨#[65, 78, 68]⟩, .string ⟨#[79, 82]⟩, .string ⟨#[78, 79, 84]⟩, .string ⟨#[69, 88, 73, 83, 84, 83]⟩, .string ⟨#[73, 78]⟩, .string ⟨#[73, 83]⟩, .string ⟨#[78, 85, 76, 76]⟩, .string ⟨#[67, 79, 85, 78, 84]⟩, .string ⟨#[77, 73, 78]⟩, .string ⟨#[77, 65, 88]⟩]
theorem kw_index (k : Nat) (hk : k < 17) (w : World) : (Instr.index 162 (.agg #[.string ⟨#[83, 69, 76, 69, 67, 84]⟩, .string ⟨#[68, 73, 83, 84, 73, 78, 67, 84]⟩, .string ⟨#[70, 82, 79, 77]⟩, .string ⟨#[87, 72, 69, 82, 69]⟩, .string ⟨#[85, 78, 73, 79, 78]⟩, .string ⟨#[65, 76, 76]⟩, .string ⟨#[65, 78, 89]⟩, .string ⟨#[65, 78, 68]⟩, .string ⟨#[79, 82]⟩, .string ⟨#[78, 79, 84]⟩, .string ⟨#[69, 88, 73, 83, 84, 83]⟩, .string ⟨#[73, 78]⟩, .string ⟨#[73, 83]⟩, .string ⟨#[78, 85, 76, 76]⟩, .string ⟨#[67, 79, 85, 78, 84]⟩, .string ⟨#[77, 73, 78]⟩, .string ⟨#[77, 65, 88]⟩]) (.int .i64 (k : Int))).run Tryz.prog w = .ok (.string (kwB k)) w := by
  rcases (show k = 0 ∨ k = 1 ∨ k = 2 ∨ k = 3 ∨ k = 4 ∨ k = 5 ∨ k = 6 ∨ k = 7 ∨ k = 8 ∨ k = 9 ∨ k = 10 ∨ k = 11 ∨ k = 12 ∨ k = 13 ∨ k = 14 ∨ k = 15 ∨ k = 16 from by omega) with rfl | rfl | rfl | rfl | rfl | rfl | rfl | rfl | rfl | rfl | rfl | rfl | rfl | rfl | rfl | rfl | rfl <;> kernel_rfl
set_option maxHeartbeats 4000000 in
theorem isKeyword_calls (s : ByteArray) (w : World) (hT : TKw w) : Calls Tryz.prog 88 #[.string s] w fun e w' => e = .returned (.bool (decide (s.toList ∈ kws))) ∧ w' = w := by
  have c0 : w.cell? ⟨1, 0, none⟩ = some (.string ⟨#[83, 69, 76, 69, 67, 84]⟩) := hT.cell 0
  have c1 : w.cell? ⟨1, 1, none⟩ = some (.string ⟨#[68, 73, 83, 84, 73, 78, 67, 84]⟩) := hT.cell 1
  have c2 : w.cell? ⟨1, 2, none⟩ = some (.string ⟨#[70, 82, 79, 77]⟩) := hT.cell 2
  have c3 : w.cell? ⟨1, 3, none⟩ = some (.string ⟨#[87, 72, 69, 82, 69]⟩) := hT.cell 3
  have c4 : w.cell? ⟨1, 4, none⟩ = some (.string ⟨#[85, 78, 73, 79, 78]⟩) := hT.cell 4
  have c5 : w.cell? ⟨1, 5, none⟩ = some (.string ⟨#[65, 76, 76]⟩) := hT.cell 5
  have c6 : w.cell? ⟨1, 6, none⟩ = some (.string ⟨#[65, 78, 89]⟩) := hT.cell 6
  have c7 : w.cell? ⟨1, 7, none⟩ = some (.string ⟨#[65, 78, 68]⟩) := hT.cell 7
  have c8 : w.cell? ⟨1, 8, none⟩ = some (.string ⟨#[79, 82]⟩) := hT.cell 8
  have c9 : w.cell? ⟨1, 9, none⟩ = some (.string ⟨#[78, 79, 84]⟩) := hT.cell 9
  have c10 : w.cell? ⟨1, 10, none⟩ = some (.string ⟨#[69, 88, 73, 83, 84, 83]⟩) := hT.cell 10
  have c11 : w.cell? ⟨1, 11, none⟩ = some (.string ⟨#[73, 78]⟩) := hT.cell 11
  have c12 : w.cell? ⟨1, 12, none⟩ = some (.string ⟨#[73, 83]⟩) := hT.cell 12
  have c13 : w.cell? ⟨1, 13, none⟩ = some (.string ⟨#[78, 85, 76, 76]⟩) := hT.cell 13
  have c14 : w.cell? ⟨1, 14, none⟩ = some (.string ⟨#[67, 79, 85, 78, 84]⟩) := hT.cell 14
  have c15 : w.cell? ⟨1, 15, none⟩ = some (.string ⟨#[77, 73, 78]⟩) := hT.cell 15
  have c16 : w.cell? ⟨1, 16, none⟩ = some (.string ⟨#[77, 65, 88]⟩) := hT.cell 16
  have hix := kw_index
  have hz := hT.size
  clear hT
  go_enter Tryz.func88, Tryz.ntmps88
  go_wp2
  go_loopw [4, 6] (fun _ i wr => ∃ k : Nat, k ≤ 17 ∧ i = .int .i64 k ∧ (∀ j, j < k → kws.getD j [] ≠ s.toList) ∧ wr = w) (fun _ i _ => 17 - (intOf i).toNat)
  case atStart => exact ⟨0, by omega, rfl, fun j hj => by omega, rfl⟩
  case round =>
    obtain ⟨k, hk, rfl, hno, rfl⟩ := hrel
    by_cases hlt : k < 17
    · have hi := hix k hlt
      clear hix
      by_cases he : kws.getD k [] = s.toList
      · have h1 : ((kwB k).toList == s.toList) = true := by rw [kwB_toList, he]; simp
        have HE : Hid (decide (s.toList ∈ kws) = true) := by
          show _ = _
          rw [decide_eq_true_eq, ← he]
          have : kws.length = 17 := rfl
          rw [List.getD_eq_getElem?_getD, List.getElem?_eq_getElem (by omega)]
          simp
        go_wp2
        go_ret
        exact ⟨congrArg (fun z => Ending.returned (.bool z)) HE.out.symm, rfl⟩
      · have h1 : ((kwB k).toList == s.toList) = false := by rw [kwB_toList]; exact beq_eq_false_iff_ne.2 he
        have Hno := hide hno
        have He := hide he
        clear hno he
        go_wp2
        go_roundw
        case rel =>
          refine ⟨k + 1, by omega, by go_num, fun j hj => ?_, by first | rfl | trivial⟩
          by_cases e : j = k
          · subst e; exact unhide He
          · exact unhide Hno j (by omega)
        case measure => simp [intOf]; omega
    · obtain rfl : k = 17 := by omega
      have HE : Hid (decide (s.toList ∈ kws) = false) := by
        show _ = _
        rw [decide_eq_false_iff_not]
        intro hm
        obtain ⟨j, hj, e⟩ := List.mem_iff_getElem.1 hm
        have : kws.length = 17 := rfl
        refine hno j (by omega) ?_
        rw [List.getD_eq_getElem?_getD, List.getElem?_eq_getElem hj]
        simpa using e
      go_wp2
      go_ret
      exact ⟨congrArg (fun z => Ending.returned (.bool z)) HE.out.symm, rfl⟩
end Go.Proofs.YtbbjhepagkkjeaaGreatDoor
