import Derived.Test.YtmcbmmpjhijagaaGreatDoorQ3
import Derived.Test.YtmcbmmpjhijagaaGreatDoorQ5
import Derived.Test.YtmcbmmpjhijagaaGreatDoorKindFns
namespace Go.Proofs.YtmcbmmpjhijagaaGreatDoor
open Go Go.RowKit
def kwB (k : Nat) : ByteArray := ⟨(kws.getD k []).toArray⟩
theorem kwB_toList (k : Nat) : (kwB k).toList = kws.getD k [] := Go.ByteArray.toList_mk _
abbrev TKw (w : World) : Prop := TabAt w 5 [.string ⟨#[83, 69, 76, 69, 67, 84]⟩, .string ⟨#[68, 73, 83, 84, 73, 78, 67, 84]⟩, .string ⟨#[70, 82, 79, 77]⟩, .string ⟨#[87, 72, 69, 82, 69]⟩, .string ⟨#[85, 78, 73, 79, 78]⟩, .string ⟨#[65, 76, 76]⟩, .string ⟨#[65, 78, 89]⟩, .string ⟨#[65, 78, 68]⟩, .string ⟨#[79, 82]⟩, .string ⟨#[78, 79, 84]⟩, .string ⟨#[69, 88, 73, 83, 84, 83]⟩, .string ⟨#[73, 78]⟩, .string ⟨#[73, 83]⟩, .string ⟨#[78, 85, 76, 76]⟩, .string ⟨#[67, 79, 85, 78, 84]⟩, .string ⟨#[77, 73, 78]⟩, .string ⟨#[77, 65, 88]⟩]
theorem kw_index (k : Nat) (hk : k < 17) (w : World) : (Instr.index 153 (.agg #[.string ⟨#[83, 69, 76, 69, 67, 84]⟩, .string ⟨#[68, 73, 83, 84, 73, 78, 67, 84]⟩, .string ⟨#[70, 82, 79, 77]⟩, .string ⟨#[87, 72, 69, 82, 69]⟩, .string ⟨#[85, 78, 73, 79, 78]⟩, .string ⟨#[65, 76, 76]⟩, .string ⟨#[65, 78, 89]⟩, .string ⟨#[65, 78, 68]⟩, .string ⟨#[79, 82]⟩, .string ⟨#[78, 79, 84]⟩, .string ⟨#[69, 88, 73, 83, 84, 83]⟩, .string ⟨#[73, 78]⟩, .string ⟨#[73, 83]⟩, .string ⟨#[78, 85, 76, 76]⟩, .string ⟨#[67, 79, 85, 78, 84]⟩, .string ⟨#[77, 73, 78]⟩, .string ⟨#[77, 65, 88]⟩]) (.int .i64 (k : Int))).run Tryz.prog w = .ok (.string (kwB k)) w := by
  rcases (show k = 0 ∨ k = 1 ∨ k = 2 ∨ k = 3 ∨ k = 4 ∨ k = 5 ∨ k = 6 ∨ k = 7 ∨ k = 8 ∨ k = 9 ∨ k = 10 ∨ k = 11 ∨ k = 12 ∨ k = 13 ∨ k = 14 ∨ k = 15 ∨ k = 16 from by omega) with rfl | rfl | rfl | rfl | rfl | rfl | rfl | rfl | rfl | rfl | rfl | rfl | rfl | rfl | rfl | rfl | rfl <;> kernel_rfl
set_option maxHeartbeats 4000000 in
theorem isKeyword_calls (s : ByteArray) (w : World) (hT : TKw w) : Calls Tryz.prog 85 #[.string s] w fun e w' => e = .returned (.bool (decide (s.toList ∈ kws))) ∧ w' = w := by
  have c0 : w.cell? ⟨5, 0, none⟩ = some (.string ⟨#[83, 69, 76, 69, 67, 84]⟩) := hT.cell 0
  have c1 : w.cell? ⟨5, 1, none⟩ = some (.string ⟨#[68, 73, 83, 84, 73, 78, 67, 84]⟩) := hT.cell 1
  have c2 : w.cell? ⟨5, 2, none⟩ = some (.string ⟨#[70, 82, 79, 77]⟩) := hT.cell 2
  have c3 : w.cell? ⟨5, 3, none⟩ = some (.string ⟨#[87, 72, 69, 82, 69]⟩) := hT.cell 3
  have c4 : w.cell? ⟨5, 4, none⟩ = some (.string ⟨#[85, 78, 73, 79, 78]⟩) := hT.cell 4
  have c5 : w.cell? ⟨5, 5, none⟩ = some (.string ⟨#[65, 76, 76]⟩) := hT.cell 5
  have c6 : w.cell? ⟨5, 6, none⟩ = some (.string ⟨#[65, 78, 89]⟩) := hT.cell 6
  have c7 : w.cell? ⟨5, 7, none⟩ = some (.string ⟨#[65, 78, 68]⟩) := hT.cell 7
  have c8 : w.cell? ⟨5, 8, none⟩ = some (.string ⟨#[79, 82]⟩) := hT.cell 8
  have c9 : w.cell? ⟨5, 9, none⟩ = some (.string ⟨#[78, 79, 84]⟩) := hT.cell 9
  have c10 : w.cell? ⟨5, 10, none⟩ = some (.string ⟨#[69, 88, 73, 83, 84, 83]⟩) := hT.cell 10
  have c11 : w.cell? ⟨5, 11, none⟩ = some (.string ⟨#[73, 78]⟩) := hT.cell 11
  have c12 : w.cell? ⟨5, 12, none⟩ = some (.string ⟨#[73, 83]⟩) := hT.cell 12
  have c13 : w.cell? ⟨5, 13, none⟩ = some (.string ⟨#[78, 85, 76, 76]⟩) := hT.cell 13
  have c14 : w.cell? ⟨5, 14, none⟩ = some (.string ⟨#[67, 79, 85, 78, 84]⟩) := hT.cell 14
  have c15 : w.cell? ⟨5, 15, none⟩ = some (.string ⟨#[77, 73, 78]⟩) := hT.cell 15
  have c16 : w.cell? ⟨5, 16, none⟩ = some (.string ⟨#[77, 65, 88]⟩) := hT.cell 16
  have hix := kw_index
  have hz := hT.size
  clear hT
  go_enter Tryz.func85, Tryz.ntmps85
  go_wp2
  go_loopw [4, 6] (fun _ i wr => ∃ k : Nat, k ≤ 17 ∧ i = .int .i64 k ∧ (∀ j, j < k → kws.getD j [] ≠ s.toList) ∧ wr = w) (fun _ i _ => 17 - (intOf i).toNat)
  case atStart => exact ⟨0, by omega, rfl, fun j hj => by omega, rfl⟩
  case round =>
    obtain ⟨k, hk, rfl, hno, rfl⟩ := hrel
    by_cases hlt : k < 17
    · have hi := hix k hlt
      clear hix
      by_cases he : kws.getD k [] = s.toList
      · have h1 : ((kwB k).toList == s.toList) = true := by rw [kwB_toList, he]; simp
        have HE : Hid (decide (s.toList ∈ kws) = true) := by
          show _ = _
          rw [decide_eq_true_eq, ← he]
          have : kws.length = 17 := rfl
          rw [List.getD_eq_getElem?_getD, List.getElem?_eq_getElem (by omega)]
          simp
        go_wp2
        go_ret
        exact ⟨congrArg (fun z => Ending.returned (.bool z)) HE.out.symm, rfl⟩
      · have h1 : ((kwB k).toList == s.toList) = false := by rw [kwB_toList]; exact beq_eq_false_iff_ne.2 he
        have Hno := hide hno
        have He := hide he
        clear hno he
        go_wp2
        go_roundw
        case rel =>
          refine ⟨k + 1, by omega, by go_num, fun j hj => ?_, by first | rfl | trivial⟩
          by_cases e : j = k
          · subst e; exact unhide He
          · exact unhide Hno j (by omega)
        case measure => simp [intOf]; omega
    · obtain rfl : k = 17 := by omega
      have HE : Hid (decide (s.toList ∈ kws) = false) := by
        show _ = _
        rw [decide_eq_false_iff_not]
        intro hm
        obtain ⟨j, hj, e⟩ := List.mem_iff_getElem.1 hm
        have : kws.length = 17 := rfl
        refine hno j (by omega) ?_
        rw [List.getD_eq_getElem?_getD, List.getElem?_eq_getElem hj]
        simpa using e
      go_wp2
      go_ret
      exact ⟨congrArg (fun z => Ending.returned (.bool z)) HE.out.symm, rfl⟩
end Go.Proofs.YtmcbmmpjhijagaaGreatDoor
namespace Go.Proofs.YtmcbmmpjhijagaaGreatDoor
open Go Go.RowKit
def spn (s : ByteArray) : Nat := (s.toList.takeWhile (fun b => part (b.toNat : Int))).length
theorem takeWhile_len {α : Type} (p : α → Bool) (d : α) : ∀ (l : List α) (k : Nat), (∀ i, i < k → p (l.getD i d) = true) → k ≤ l.length → (k = l.length ∨ p (l.getD k d) = false) → (l.takeWhile p).length = k
  | [], k, _, h2, _ => by simp at h2; subst h2; rfl
  | x :: l, 0, _, _, h3 => by
    rcases h3 with h | h
    · simp at h
    · simp at h
      simp [List.takeWhile, h]
  | x :: l, k + 1, h1, h2, h3 => by
    have hx : p x = true := by simpa using h1 0 (by omega)
    have := takeWhile_len p d l k (fun i hi => by simpa using h1 (i + 1) (by omega)) (by simpa using h2) (by simpa using h3)
    simp [List.takeWhile, hx, this]
theorem spn_eq (s : ByteArray) (k : Nat) (h1 : ∀ i, i < k → part (byt s i) = true) (h2 : k ≤ s.size) (h3 : k = s.size ∨ part (byt s k) = false) : spn s = k :=
  takeWhile_len _ 0 s.toList k h1 (by rw [size_toList]; exact h2) (by rw [size_toList]; exact h3)
theorem spn_le (s : ByteArray) : spn s ≤ s.size := by
  rw [← size_toList]
  exact (List.takeWhile_sublist _).length_le
theorem takeWhile_full {α : Type} (p : α → Bool) (d : α) : ∀ (l : List α), (l.takeWhile p).length = l.length → ∀ i, i < l.length → p (l.getD i d) = true
  | [], _, i, hi => by simp at hi
  | x :: l, h, i, hi => by
    cases hx : p x
    · simp [List.takeWhile, hx] at h
    · simp [List.takeWhile, hx] at h
      cases i with
      | zero => simpa using hx
      | succ i => simpa using takeWhile_full p d l h i (by simpa using hi)
theorem spn_full (s : ByteArray) (h : spn s = s.size) (i : Nat) (hi : i < s.size) : part (byt s i) = true :=
  takeWhile_full _ 0 s.toList (by rw [size_toList]; exact h) i (by rw [size_toList]; exact hi)
set_option maxHeartbeats 1000000 in
theorem spanLen_calls (s : ByteArray) (w : World) (hs : s.size ≤ 1048576) : Calls Tryz.prog 83 #[.string s, .func (Fn.func 84) #[] #[]] w fun e w' => e = .returned (.int .i64 (spn s)) ∧ w' = w := by
  go_enter Tryz.func83, Tryz.ntmps83
  go_wp2
  go_loopw [5] (fun i wr => ∃ k : Nat, k ≤ s.size ∧ i = .int .i64 k ∧ (∀ j, j < k → part (byt s j) = true) ∧ wr = w) (fun i _ => s.size - (intOf i).toNat)
  case atStart => exact ⟨0, Nat.zero_le _, rfl, fun i hi => by omega, rfl⟩
  case round =>
    obtain ⟨k, hk, rfl, hw, rfl⟩ := hrel
    have HW := hide hw
    clear hw
    by_cases hlt : k < s.size
    · have eb := byt_eq s k hlt
      have PC := fun w => isWordPart_calls (byt s k) w
      have j1 : (k : Int) < (s.size : Int) := by omega
      have hnext : part (byt s k) = true → ∀ j, j < k + 1 → part (byt s j) = true := fun h j hj => by
        by_cases e : j = k
        · subst e; exact h
        · exact unhide HW j (by omega)
      have hend : part (byt s k) = false → spn s = k := fun h => spn_eq s k (unhide HW) hk (Or.inr h)
      have Hn := hide hnext; have He := hide hend
      clear hnext hend
      generalize byt s k = c at *
      generalize part c = p at *
      have HP := hide PC
      clear PC
      cases p
      · go_wp2_with fail
        refine (unhide HP _).mono ?_; rintro e w1 ⟨rfl, rfl⟩
        go_wp2
        go_ret
        exact ⟨congrArg (fun z : Nat => Ending.returned (.int .i64 (z : Int))) (unhide He (by first | rfl | trivial)).symm, rfl⟩
      · go_wp2_with fail
        refine (unhide HP _).mono ?_; rintro e w1 ⟨rfl, rfl⟩
        go_wp2
        go_roundw
        case rel => exact ⟨k + 1, by omega, by go_num, unhide Hn (by first | rfl | trivial), by first | rfl | trivial⟩
        case measure => simp [intOf]; omega
    · obtain rfl : k = s.size := by omega
      have He := hide (spn_eq s s.size (unhide HW) hk (Or.inl rfl))
      go_wp2
      go_ret
      exact ⟨congrArg (fun z : Nat => Ending.returned (.int .i64 (z : Int))) (unhide He).symm, rfl⟩
theorem name_iff (s : ByteArray) : NameB s ↔ (s.toList ≠ [] ∧ s.size ≤ 64 ∧ letter (byt s 0) = true ∧ spn s = s.size ∧ s.toList ∉ kws) := by
  unfold NameB WordB
  constructor
  · intro ⟨⟨h0, h1, h2⟩, h3, h4⟩
    refine ⟨fun e => ?_, h3, h1, spn_eq s _ h2 (Nat.le_refl _) (Or.inl rfl), h4⟩
    rw [← size_toList, e] at h0
    simp at h0
  · intro ⟨h0, h3, h1, h2, h4⟩
    refine ⟨⟨?_, h1, spn_full s h2⟩, h3, h4⟩
    rw [← size_toList]
    exact List.length_pos_iff.2 h0
set_option maxHeartbeats 1000000 in
theorem sIsName_calls (s : ByteArray) (w : World) (hs : s.size ≤ 1048576) : Calls Tryz.prog 53 #[.string s] w fun e w' => e = .returned (.bool (dB (NameB s))) ∧ w' = w := by
  have WC := fun w => isWord_calls s w hs
  have KC := fun w => keyword_calls s w
  have HN : Hid (NameB s ↔ (dB (WordB s) = true ∧ s.size ≤ 64 ∧ ¬ decide (s.toList ∈ kws) = true)) := by
    show _ ↔ _
    rw [dB_iff]; unfold NameB; simp
  generalize dB (WordB s) = b at *
  generalize decide (s.toList ∈ kws) = k at *
  have HW := hide WC; have HK := hide KC
  clear WC KC
  cases b
  · have HE : Hid (dB (NameB s) = false) := dB_false (fun h => by have := (HN.out.1 h).1; simp at this)
    clear HN
    go_enter Tryz.func53, Tryz.ntmps53
    go_wp2_with fail
    refine (unhide HW _).mono ?_; rintro e w1 ⟨rfl, rfl⟩
    go_wp2
    go_ret
    exact ⟨congrArg (fun z => Ending.returned (.bool z)) HE.out.symm, rfl⟩
  · by_cases h64 : (s.size : Int) ≤ 64
    · cases k
      · have HE : Hid (dB (NameB s) = true) := dB_true (HN.out.2 ⟨rfl, by omega, by simp⟩)
        clear HN
        go_enter Tryz.func53, Tryz.ntmps53
        go_wp2_with fail
        refine (unhide HW _).mono ?_; rintro e w1 ⟨rfl, rfl⟩
        go_wp2_with fail
        refine (unhide HK _).mono ?_; rintro e w1 ⟨rfl, rfl⟩
        go_wp2
        go_ret
        exact ⟨congrArg (fun z => Ending.returned (.bool z)) HE.out.symm, rfl⟩
      · have HE : Hid (dB (NameB s) = false) := dB_false (fun h => by have := (HN.out.1 h).2.2; simp at this)
        clear HN
        go_enter Tryz.func53, Tryz.ntmps53
        go_wp2_with fail
        refine (unhide HW _).mono ?_; rintro e w1 ⟨rfl, rfl⟩
        go_wp2_with fail
        refine (unhide HK _).mono ?_; rintro e w1 ⟨rfl, rfl⟩
        go_wp2
        go_ret
        exact ⟨congrArg (fun z => Ending.returned (.bool z)) HE.out.symm, rfl⟩
    · have HE : Hid (dB (NameB s) = false) := dB_false (fun h => by have := (HN.out.1 h).2.1; omega)
      clear HN
      go_enter Tryz.func53, Tryz.ntmps53
      go_wp2_with fail
      refine (unhide HW _).mono ?_; rintro e w1 ⟨rfl, rfl⟩
      go_wp2
      go_ret
      exact ⟨congrArg (fun z => Ending.returned (.bool z)) HE.out.symm, rfl⟩
end Go.Proofs.YtmcbmmpjhijagaaGreatDoor
namespace Go.Proofs.YtmcbmmpjhijagaaGreatDoor
open Go Go.RowKit
theorem short_calls (n : Int) (w : World) : Calls Tryz.prog 52 #[.int .i64 n] w fun e w' => e = .returned (.bool (shortB n)) ∧ w' = w := by
  by_cases h1 : -1000000000000000000 < n
  · have HE : Hid (shortB n = decide (n < 1000000000000000000)) := by show _ = _; simp [shortB, h1]
    go_enter Tryz.func52, Tryz.ntmps52
    go_wp2
    go_ret
    exact ⟨congrArg (fun z => Ending.returned (.bool z)) HE.out.symm, rfl⟩
  · have HE : Hid (shortB n = false) := by show _ = _; simp [shortB, h1]
    go_enter Tryz.func52, Tryz.ntmps52
    go_wp2
    go_ret
    exact ⟨congrArg (fun z => Ending.returned (.bool z)) HE.out.symm, rfl⟩
def onlyB (s : ByteArray) (c least : Int) : Prop := (∀ i, i < s.size → byt s i = c) ∧ least ≤ (s.size : Int)
theorem only_iff (s : ByteArray) (c : UInt8) (least : Nat) : onlyB s (c.toNat : Int) least ↔ only s.toList c least := by
  unfold onlyB only
  rw [size_toList]
  constructor
  · intro ⟨h1, h2⟩
    refine ⟨fun x hx => ?_, by omega⟩
    obtain ⟨i, hi, rfl⟩ := List.mem_iff_getElem.1 hx
    have := h1 i (by rw [← size_toList]; exact hi)
    unfold byt at this
    rw [List.getD_eq_getElem?_getD, List.getElem?_eq_getElem hi] at this
    simp at this
    exact UInt8.toNat_inj.1 (by omega)
  · intro ⟨h1, h2⟩
    refine ⟨fun i hi => ?_, by omega⟩
    have hl : i < s.toList.length := by rw [size_toList]; exact hi
    unfold byt
    rw [List.getD_eq_getElem?_getD, List.getElem?_eq_getElem hl]
    simp
    rw [h1 _ (List.getElem_mem hl)]
set_option maxHeartbeats 1000000 in
theorem only_calls (s : ByteArray) (c least : Int) (w : World) (hs : s.size ≤ 1048576) : Calls Tryz.prog 55 #[.string s, .int .u8 c, .int .i64 least] w fun e w' => e = .returned (.bool (dB (onlyB s c least))) ∧ w' = w := by
  go_enter Tryz.func55, Tryz.ntmps55
  go_wp2
  go_loopw [7] (fun i wr => ∃ k : Nat, k ≤ s.size ∧ i = .int .i64 k ∧ (∀ j, j < k → byt s j = c) ∧ wr = w) (fun i _ => s.size - (intOf i).toNat)
  case atStart => exact ⟨0, Nat.zero_le _, rfl, fun i hi => by omega, rfl⟩
  case round =>
    obtain ⟨k, hk, rfl, hw, rfl⟩ := hrel
    have HW := hide hw
    clear hw
    by_cases hlt : k < s.size
    · have eb := byt_eq s k hlt
      have j1 : (k : Int) < (s.size : Int) := by omega
      have hnext : byt s k = c → ∀ j, j < k + 1 → byt s j = c := fun h j hj => by
        by_cases e : j = k
        · subst e; exact h
        · exact unhide HW j (by omega)
      have hbad : byt s k ≠ c → ¬ onlyB s c least := fun h hh => h (hh.1 k hlt)
      have Hn := hide hnext; have Hb := hide hbad
      clear hnext hbad
      generalize byt s k = d at *
      by_cases h : d = c
      · have h' : (d != c) = false := by simp [h]
        have H := hide h
        clear h
        go_wp2
        go_roundw
        case rel => exact ⟨k + 1, by omega, by go_num, unhide Hn (unhide H), by first | rfl | trivial⟩
        case measure => simp [intOf]; omega
      · have h' : (d != c) = true := by simp [h]
        have H := hide h
        clear h
        go_wp2
        go_ret
        exact ⟨congrArg (fun z => Ending.returned (.bool z)) (dB_false (unhide Hb (unhide H))).symm, rfl⟩
    · obtain rfl : k = s.size := by omega
      have HE : Hid (dB (onlyB s c least) = decide (least ≤ (s.size : Int))) := by
        show _ = _
        rw [Bool.eq_iff_iff, dB_iff, decide_eq_true_eq]
        exact ⟨fun h => h.2, fun h => ⟨unhide HW, h⟩⟩
      clear HW
      go_wp2
      go_ret
      exact ⟨congrArg (fun z => Ending.returned (.bool z)) HE.out.symm, rfl⟩
def mkS (l : List UInt8) : ByteArray := ⟨l.toArray⟩
theorem mkS_toList (l : List UInt8) : (mkS l).toList = l := Go.ByteArray.toList_mk l
theorem mkS_size (l : List UInt8) : (mkS l).size = l.length := by rw [← size_toList, mkS_toList]
theorem ext_toList {a b : ByteArray} (h : a.toList = b.toList) : a = b := by
  rw [Go.ByteArray.toList_eq, Go.ByteArray.toList_eq] at h
  cases a; cases b
  simp at h
  rw [h]
theorem eq_mkS (s : ByteArray) : s = mkS s.toList := ext_toList (mkS_toList _).symm
theorem extract_toList (s : ByteArray) (a b : Nat) : (s.extract a b).toList = (s.toList.drop a).take (b - a) := by
  rw [Go.ByteArray.toList_eq, Go.ByteArray.toList_eq, ByteArray.data_extract, Array.toList_extract]
end Go.Proofs.YtmcbmmpjhijagaaGreatDoor
