import Derived.Test.YteebidljiemegaaDoorNameFns
namespace Go.Proofs.YteebidljiemegaaDoor
open Go Go.RowKit
theorem byt_eq (s : ByteArray) (i : Nat) (h : i < s.size) : ((s[i]'h).toNat : Int) = byt s i := by
  unfold byt
  have hl : i < s.toList.length := by rw [size_toList]; exact h
  rw [List.getD_eq_getElem?_getD, List.getElem?_eq_getElem hl]
  congr 2
  cases s with | mk d =>
  simp [Go.ByteArray.toList_eq]
  rfl
def wordTo (s : ByteArray) (k : Nat) : Prop := ∀ i, i < k → letter (byt s i) = true ∨ (i ≠ 0 ∧ (digit (byt s i) = true ∨ byt s i = 95))
theorem word_iff (s : ByteArray) : WordB s ↔ (wordTo s s.size ∧ 0 < s.size) := by
  unfold WordB wordTo part
  constructor
  · intro ⟨h0, h1, h2⟩
    refine ⟨fun i hi => ?_, h0⟩
    by_cases e : i = 0
    · subst e; exact Or.inl h1
    · have := h2 i hi
      simp at this
      rcases this with (h | h) | h
      · exact Or.inl h
      · exact Or.inr ⟨e, Or.inl h⟩
      · exact Or.inr ⟨e, Or.inr h⟩
  · intro ⟨h1, h0⟩
    refine ⟨h0, ?_, fun i hi => ?_⟩
    · rcases h1 0 h0 with h | h
      · exact h
      · exact absurd rfl h.1
    · simp
      rcases h1 i hi with h | ⟨_, h | h⟩
      · exact Or.inl (Or.inl h)
      · exact Or.inl (Or.inr h)
      · exact Or.inr h
set_option maxHeartbeats 1000000 in
theorem isWord_calls (s : ByteArray) (w : World) (hs : s.size ≤ 1048576) : Calls Tryd.prog 41 #[.string s] w fun e w' => e = .returned (.bool (dB (WordB s))) ∧ w' = w := by
  go_enter Tryd.func41, Tryd.ntmps41
  go_wp2
  go_loopw [3] (fun i wr => ∃ k : Nat, k ≤ s.size ∧ i = .int .i64 k ∧ wordTo s k ∧ wr = w) (fun i _ => s.size - (intOf i).toNat)
  case atStart => exact ⟨0, Nat.zero_le _, rfl, fun i hi => by omega, rfl⟩
  case round =>
    obtain ⟨k, hk, rfl, hw, rfl⟩ := hrel
    have HW := hide hw
    clear hw
    by_cases hlt : k < s.size
    · have eb := byt_eq s k hlt
      have LC := fun w => letter_calls (byt s k) w
      have DC := fun w => digit_calls (byt s k) w
      have hnext : (letter (byt s k) = true ∨ (k ≠ 0 ∧ (digit (byt s k) = true ∨ byt s k = 95))) → wordTo s (k + 1) := fun h i hi => by
        by_cases e : i = k
        · subst e; exact h
        · exact unhide HW i (by omega)
      have hbad : ¬ (letter (byt s k) = true ∨ (k ≠ 0 ∧ (digit (byt s k) = true ∨ byt s k = 95))) → ¬ WordB s := fun h hh => h (((word_iff s).1 hh).1 k hlt)
      have Hn := hide hnext; have Hb := hide hbad
      clear hnext hbad
      generalize byt s k = c at *
      generalize letter c = l at *
      generalize digit c = d at *
      have HL := hide LC; have HD := hide DC
      clear LC DC
      have j1 : (k : Int) < (s.size : Int) := by omega
      cases l
      · by_cases h0 : k = 0
        · have h0' : ((k : Int) == 0) = true := by simp [h0]
          have H0 := hide h0
          clear h0
          go_wp2_with fail
          refine (unhide HL _).mono ?_; rintro e w1 ⟨rfl, rfl⟩
          go_wp2
          go_ret
          exact ⟨congrArg (fun z => Ending.returned (.bool z)) (dB_false (unhide Hb (by have h0 := unhide H0; simp [h0]))).symm, rfl⟩
        · have h0' : ((k : Int) == 0) = false := by simp; omega
          have H0 := hide h0
          clear h0
          cases d
          · by_cases h95 : c = 95
            · have h95' : (c != 95) = false := by simp [h95]
              have H95 := hide h95
              clear h95
              go_wp2_with fail
              refine (unhide HL _).mono ?_; rintro e w1 ⟨rfl, rfl⟩
              go_wp2_with fail
              refine (unhide HD _).mono ?_; rintro e w1 ⟨rfl, rfl⟩
              go_wp2
              go_roundw
              case rel => exact ⟨k + 1, by omega, by go_num, unhide Hn (by have h0 := unhide H0; have h95 := unhide H95; simp [h0, h95]), by first | rfl | trivial⟩
              case measure => simp [intOf]; omega
            · have h95' : (c != 95) = true := by simp [h95]
              have H95 := hide h95
              clear h95
              go_wp2_with fail
              refine (unhide HL _).mono ?_; rintro e w1 ⟨rfl, rfl⟩
              go_wp2_with fail
              refine (unhide HD _).mono ?_; rintro e w1 ⟨rfl, rfl⟩
              go_wp2
              go_ret
              exact ⟨congrArg (fun z => Ending.returned (.bool z)) (dB_false (unhide Hb (by have h95 := unhide H95; simp [h95]))).symm, rfl⟩
          · go_wp2_with fail
            refine (unhide HL _).mono ?_; rintro e w1 ⟨rfl, rfl⟩
            go_wp2_with fail
            refine (unhide HD _).mono ?_; rintro e w1 ⟨rfl, rfl⟩
            go_wp2
            go_roundw
            case rel => exact ⟨k + 1, by omega, by go_num, unhide Hn (by have h0 := unhide H0; simp [h0]), by first | rfl | trivial⟩
            case measure => simp [intOf]; omega
      · go_wp2_with fail
        refine (unhide HL _).mono ?_; rintro e w1 ⟨rfl, rfl⟩
        go_wp2
        go_roundw
        case rel => exact ⟨k + 1, by omega, by go_num, unhide Hn (by simp), by first | rfl | trivial⟩
        case measure => simp [intOf]; omega
    · obtain rfl : k = s.size := by omega
      have HE := word_iff s
      have H2 := hide HE
      clear HE
      by_cases h0 : 0 < s.size
      · have h0' : (0 : Int) < (s.size : Int) := by omega
        go_wp2
        go_ret
        exact ⟨congrArg (fun z => Ending.returned (.bool z)) (dB_true ((unhide H2).2 ⟨unhide HW, h0⟩)).symm, rfl⟩
      · have h0' : ¬ (0 : Int) < (s.size : Int) := by omega
        go_wp2
        go_ret
        exact ⟨congrArg (fun z => Ending.returned (.bool z)) (dB_false (fun h => absurd ((unhide H2).1 h).2 h0)).symm, rfl⟩
end Go.Proofs.YteebidljiemegaaDoor
