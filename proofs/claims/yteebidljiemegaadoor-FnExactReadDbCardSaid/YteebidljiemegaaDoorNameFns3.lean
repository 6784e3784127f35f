import Derived.Test.YteebidljiemegaaDoorNameFns2
import Derived.Test.YteebidljiemegaaDoorKeyword
import Derived.Test.YteebidljiemegaaDoorKeyword2
namespace Go.Proofs.YteebidljiemegaaDoor
open Go Go.RowKit
def spn (s : ByteArray) : Nat := (s.toList.takeWhile (fun b => part (b.toNat : Int))).length
theorem takeWhile_len {α : Type} (p : α → Bool) (d : α) : ∀ (l : List α) (k : Nat), (∀ i, i < k → p (l.getD i d) = true) → k ≤ l.length → (k = l.length ∨ p (l.getD k d) = false) → (l.takeWhile p).length = k
  | [], k, _, h2, _ => by simp at h2; subst h2; rfl
  | x :: l, 0, _, _, h3 => by
    rcases h3 with h | h
    · simp at h
    · simp at h
      simp [List.takeWhile, h]
  | x :: l, k + 1, h1, h2, h3 => by
    have hx : p x = true := by simpa using h1 0 (by omega)
    have := takeWhile_len p d l k (fun i hi => by simpa using h1 (i + 1) (by omega)) (by simpa using h2) (by simpa using h3)
    simp [List.takeWhile, hx, this]
theorem spn_eq (s : ByteArray) (k : Nat) (h1 : ∀ i, i < k → part (byt s i) = true) (h2 : k ≤ s.size) (h3 : k = s.size ∨ part (byt s k) = false) : spn s = k :=
  takeWhile_len _ 0 s.toList k h1 (by rw [size_toList]; exact h2) (by rw [size_toList]; exact h3)
theorem spn_le (s : ByteArray) : spn s ≤ s.size := by
  rw [← size_toList]
  exact (List.takeWhile_sublist _).length_le
theorem takeWhile_full {α : Type} (p : α → Bool) (d : α) : ∀ (l : List α), (l.takeWhile p).length = l.length → ∀ i, i < l.length → p (l.getD i d) = true
  | [], _, i, hi => by simp at hi
  | x :: l, h, i, hi => by
    cases hx : p x
    · simp [List.takeWhile, hx] at h
    · simp [List.takeWhile, hx] at h
      cases i with
      | zero => simpa using hx
      | succ i => simpa using takeWhile_full p d l h i (by simpa using hi)
theorem spn_full (s : ByteArray) (h : spn s = s.size) (i : Nat) (hi : i < s.size) : part (byt s i) = true :=
  takeWhile_full _ 0 s.toList (by rw [size_toList]; exact h) i (by rw [size_toList]; exact hi)
set_option maxHeartbeats 1000000 in
theorem spanLen_calls (s : ByteArray) (w : World) (hs : s.size ≤ 1048576) : Calls Tryd.prog 57 #[.string s, .func (Fn.func 61) #[] #[]] w fun e w' => e = .returned (.int .i64 (spn s)) ∧ w' = w := by
  go_enter Tryd.func57, Tryd.ntmps57
  go_wp2
  go_loopw [5] (fun i wr => ∃ k : Nat, k ≤ s.size ∧ i = .int .i64 k ∧ (∀ j, j < k → part (byt s j) = true) ∧ wr = w) (fun i _ => s.size - (intOf i).toNat)
  case atStart => exact ⟨0, Nat.zero_le _, rfl, fun i hi => by omega, rfl⟩
  case round =>
    obtain ⟨k, hk, rfl, hw, rfl⟩ := hrel
    have HW := hide hw
    clear hw
    by_cases hlt : k < s.size
    · have eb := byt_eq s k hlt
      have PC := fun w => isWordPart_calls (byt s k) w
      have j1 : (k : Int) < (s.size : Int) := by omega
      have hnext : part (byt s k) = true → ∀ j, j < k + 1 → part (byt s j) = true := fun h j hj => by
        by_cases e : j = k
        · subst e; exact h
        · exact unhide HW j (by omega)
      have hend : part (byt s k) = false → spn s = k := fun h => spn_eq s k (unhide HW) hk (Or.inr h)
      have Hn := hide hnext; have He := hide hend
      clear hnext hend
      generalize byt s k = c at *
      generalize part c = p at *
      have HP := hide PC
      clear PC
      cases p
      · go_wp2_with fail
        refine (unhide HP _).mono ?_; rintro e w1 ⟨rfl, rfl⟩
        go_wp2
        go_ret
        exact ⟨congrArg (fun z : Nat => Ending.returned (.int .i64 (z : Int))) (unhide He (by first | rfl | trivial)).symm, rfl⟩
      · go_wp2_with fail
        refine (unhide HP _).mono ?_; rintro e w1 ⟨rfl, rfl⟩
        go_wp2
        go_roundw
        case rel => exact ⟨k + 1, by omega, by go_num, unhide Hn (by first | rfl | trivial), by first | rfl | trivial⟩
        case measure => simp [intOf]; omega
    · obtain rfl : k = s.size := by omega
      have He := hide (spn_eq s s.size (unhide HW) hk (Or.inl rfl))
      go_wp2
      go_ret
      exact ⟨congrArg (fun z : Nat => Ending.returned (.int .i64 (z : Int))) (unhide He).symm, rfl⟩
theorem name_iff (s : ByteArray) : NameB s ↔ (s.toList ≠ [] ∧ s.size ≤ 64 ∧ letter (byt s 0) = true ∧ spn s = s.size ∧ s.toList ∉ kws) := by
  unfold NameB WordB
  constructor
  · intro ⟨⟨h0, h1, h2⟩, h3, h4⟩
    refine ⟨fun e => ?_, h3, h1, spn_eq s _ h2 (Nat.le_refl _) (Or.inl rfl), h4⟩
    rw [← size_toList, e] at h0
    simp at h0
  · intro ⟨h0, h3, h1, h2, h4⟩
    refine ⟨⟨?_, h1, spn_full s h2⟩, h3, h4⟩
    rw [← size_toList]
    exact List.length_pos_iff.2 h0
set_option maxHeartbeats 1000000 in
theorem sIsName_calls (s : ByteArray) (w : World) (hs : s.size ≤ 1048576) : Calls Tryd.prog 27 #[.string s] w fun e w' => e = .returned (.bool (dB (NameB s))) ∧ w' = w := by
  have WC := fun w => isWord_calls s w hs
  have KC := fun w => keyword_calls s w
  have HN : Hid (NameB s ↔ (dB (WordB s) = true ∧ s.size ≤ 64 ∧ ¬ decide (s.toList ∈ kws) = true)) := by
    show _ ↔ _
    rw [dB_iff]; unfold NameB; simp
  generalize dB (WordB s) = b at *
  generalize decide (s.toList ∈ kws) = k at *
  have HW := hide WC; have HK := hide KC
  clear WC KC
  cases b
  · have HE : Hid (dB (NameB s) = false) := dB_false (fun h => by have := (HN.out.1 h).1; simp at this)
    clear HN
    go_enter Tryd.func27, Tryd.ntmps27
    go_wp2_with fail
    refine (unhide HW _).mono ?_; rintro e w1 ⟨rfl, rfl⟩
    go_wp2
    go_ret
    exact ⟨congrArg (fun z => Ending.returned (.bool z)) HE.out.symm, rfl⟩
  · by_cases h64 : (s.size : Int) ≤ 64
    · cases k
      · have HE : Hid (dB (NameB s) = true) := dB_true (HN.out.2 ⟨rfl, by omega, by simp⟩)
        clear HN
        go_enter Tryd.func27, Tryd.ntmps27
        go_wp2_with fail
        refine (unhide HW _).mono ?_; rintro e w1 ⟨rfl, rfl⟩
        go_wp2_with fail
        refine (unhide HK _).mono ?_; rintro e w1 ⟨rfl, rfl⟩
        go_wp2
        go_ret
        exact ⟨congrArg (fun z => Ending.returned (.bool z)) HE.out.symm, rfl⟩
      · have HE : Hid (dB (NameB s) = false) := dB_false (fun h => by have := (HN.out.1 h).2.2; simp at this)
        clear HN
        go_enter Tryd.func27, Tryd.ntmps27
        go_wp2_with fail
        refine (unhide HW _).mono ?_; rintro e w1 ⟨rfl, rfl⟩
        go_wp2_with fail
        refine (unhide HK _).mono ?_; rintro e w1 ⟨rfl, rfl⟩
        go_wp2
        go_ret
        exact ⟨congrArg (fun z => Ending.returned (.bool z)) HE.out.symm, rfl⟩
    · have HE : Hid (dB (NameB s) = false) := dB_false (fun h => by have := (HN.out.1 h).2.1; omega)
      clear HN
      go_enter Tryd.func27, Tryd.ntmps27
      go_wp2_with fail
      refine (unhide HW _).mono ?_; rintro e w1 ⟨rfl, rfl⟩
      go_wp2
      go_ret
      exact ⟨congrArg (fun z => Ending.returned (.bool z)) HE.out.symm, rfl⟩
end Go.Proofs.YteebidljiemegaaDoor
