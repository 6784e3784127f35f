import Derived.Test.YteebidljiemegaaDoorNodeKit
namespace Go.Proofs.YteebidljiemegaaDoor
open Go Go.RowKit
theorem letter_calls (c : Int) (w : World) : Calls Tryd.prog 53 #[.int .u8 c] w fun e w' => e = .returned (.bool (letter c)) ∧ w' = w := by
  by_cases h1 : 65 ≤ c
  · by_cases h2 : c ≤ 90
    · have HE : Hid (letter c = true) := by show _ = _; simp [letter, h1, h2]
      go_enter Tryd.func53, Tryd.ntmps53
      go_wp2
      go_ret
      exact ⟨congrArg (fun z => Ending.returned (.bool z)) HE.out.symm, rfl⟩
    · by_cases h3 : 97 ≤ c
      · have HE : Hid (letter c = decide (c ≤ 122)) := by show _ = _; simp [letter, h2, h3]
        go_enter Tryd.func53, Tryd.ntmps53
        go_wp2
        go_ret
        exact ⟨congrArg (fun z => Ending.returned (.bool z)) HE.out.symm, rfl⟩
      · have HE : Hid (letter c = false) := by show _ = _; simp [letter, h2, h3]
        go_enter Tryd.func53, Tryd.ntmps53
        go_wp2
        go_ret
        exact ⟨congrArg (fun z => Ending.returned (.bool z)) HE.out.symm, rfl⟩
  · have h3 : ¬ 97 ≤ c := by omega
    have HE : Hid (letter c = false) := by show _ = _; simp [letter, h1, h3]
    go_enter Tryd.func53, Tryd.ntmps53
    go_wp2
    go_ret
    exact ⟨congrArg (fun z => Ending.returned (.bool z)) HE.out.symm, rfl⟩
theorem digit_calls (c : Int) (w : World) : Calls Tryd.prog 23 #[.int .u8 c] w fun e w' => e = .returned (.bool (digit c)) ∧ w' = w := by
  by_cases h1 : 48 ≤ c
  · have HE : Hid (digit c = decide (c ≤ 57)) := by show _ = _; simp [digit, h1]
    go_enter Tryd.func23, Tryd.ntmps23
    go_wp2
    go_ret
    exact ⟨congrArg (fun z => Ending.returned (.bool z)) HE.out.symm, rfl⟩
  · have HE : Hid (digit c = false) := by show _ = _; simp [digit, h1]
    go_enter Tryd.func23, Tryd.ntmps23
    go_wp2
    go_ret
    exact ⟨congrArg (fun z => Ending.returned (.bool z)) HE.out.symm, rfl⟩
theorem isLetter_calls (c : Int) (w : World) : Calls Tryd.prog 60 #[.int .u8 c] w fun e w' => e = .returned (.bool (letter c)) ∧ w' = w := by
  by_cases h1 : 65 ≤ c
  · by_cases h2 : c ≤ 90
    · have HE : Hid (letter c = true) := by show _ = _; simp [letter, h1, h2]
      go_enter Tryd.func60, Tryd.ntmps60
      go_wp2
      go_ret
      exact ⟨congrArg (fun z => Ending.returned (.bool z)) HE.out.symm, rfl⟩
    · by_cases h3 : 97 ≤ c
      · have HE : Hid (letter c = decide (c ≤ 122)) := by show _ = _; simp [letter, h2, h3]
        go_enter Tryd.func60, Tryd.ntmps60
        go_wp2
        go_ret
        exact ⟨congrArg (fun z => Ending.returned (.bool z)) HE.out.symm, rfl⟩
      · have HE : Hid (letter c = false) := by show _ = _; simp [letter, h2, h3]
        go_enter Tryd.func60, Tryd.ntmps60
        go_wp2
        go_ret
        exact ⟨congrArg (fun z => Ending.returned (.bool z)) HE.out.symm, rfl⟩
  · have h3 : ¬ 97 ≤ c := by omega
    have HE : Hid (letter c = false) := by show _ = _; simp [letter, h1, h3]
    go_enter Tryd.func60, Tryd.ntmps60
    go_wp2
    go_ret
    exact ⟨congrArg (fun z => Ending.returned (.bool z)) HE.out.symm, rfl⟩
theorem isDigit_calls (c : Int) (w : World) : Calls Tryd.prog 58 #[.int .u8 c] w fun e w' => e = .returned (.bool (digit c)) ∧ w' = w := by
  by_cases h1 : 48 ≤ c
  · have HE : Hid (digit c = decide (c ≤ 57)) := by show _ = _; simp [digit, h1]
    go_enter Tryd.func58, Tryd.ntmps58
    go_wp2
    go_ret
    exact ⟨congrArg (fun z => Ending.returned (.bool z)) HE.out.symm, rfl⟩
  · have HE : Hid (digit c = false) := by show _ = _; simp [digit, h1]
    go_enter Tryd.func58, Tryd.ntmps58
    go_wp2
    go_ret
    exact ⟨congrArg (fun z => Ending.returned (.bool z)) HE.out.symm, rfl⟩
theorem isWordPart_calls (c : Int) (w : World) : Calls Tryd.prog 61 #[.int .u8 c] w fun e w' => e = .returned (.bool (part c)) ∧ w' = w := by
  have L := fun w => isLetter_calls c w
  have D := fun w => isDigit_calls c w
  have HE : Hid (part c = (letter c || digit c || decide (c = 95))) := rfl
  generalize letter c = l at *
  generalize digit c = d at *
  have HL := hide L; have HD := hide D
  clear L D
  cases l
  · cases d
    · by_cases h : c = 95
      · subst h
        go_enter Tryd.func61, Tryd.ntmps61
        go_wp2_with fail
        refine (unhide HL _).mono ?_; rintro e w1 ⟨rfl, rfl⟩
        go_wp2_with fail
        refine (unhide HD _).mono ?_; rintro e w1 ⟨rfl, rfl⟩
        go_wp2
        go_ret
        exact ⟨congrArg (fun z => Ending.returned (.bool z)) HE.out.symm, rfl⟩
      · have h' : (c == 95) = false := beq_eq_false_iff_ne.2 h
        have HE' : Hid (part c = false) := by show _ = _; rw [HE.out]; simp [h]
        clear HE
        go_enter Tryd.func61, Tryd.ntmps61
        go_wp2_with fail
        refine (unhide HL _).mono ?_; rintro e w1 ⟨rfl, rfl⟩
        go_wp2_with fail
        refine (unhide HD _).mono ?_; rintro e w1 ⟨rfl, rfl⟩
        go_wp2
        go_ret
        exact ⟨congrArg (fun z => Ending.returned (.bool z)) HE'.out.symm, rfl⟩
    · have HE' : Hid (part c = true) := by show _ = _; rw [HE.out]; simp
      clear HE
      go_enter Tryd.func61, Tryd.ntmps61
      go_wp2_with fail
      refine (unhide HL _).mono ?_; rintro e w1 ⟨rfl, rfl⟩
      go_wp2_with fail
      refine (unhide HD _).mono ?_; rintro e w1 ⟨rfl, rfl⟩
      go_wp2
      go_ret
      exact ⟨congrArg (fun z => Ending.returned (.bool z)) HE'.out.symm, rfl⟩
  · have HE' : Hid (part c = true) := by show _ = _; rw [HE.out]; simp
    clear HE
    go_enter Tryd.func61, Tryd.ntmps61
    go_wp2_with fail
    refine (unhide HL _).mono ?_; rintro e w1 ⟨rfl, rfl⟩
    go_wp2
    go_ret
    exact ⟨congrArg (fun z => Ending.returned (.bool z)) HE'.out.symm, rfl⟩
end Go.Proofs.YteebidljiemegaaDoor
