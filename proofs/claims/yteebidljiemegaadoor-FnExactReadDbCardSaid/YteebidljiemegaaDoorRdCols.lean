import Derived.Test.YteebidljiemegaaDoorRdVal
import Derived.Test.YteebidljiemegaaDoorRdMath
namespace Go.Proofs.YteebidljiemegaaDoor
open Go Go.RowKit
def ColB (s : ByteArray) : Prop := NumB s ∧ digit (byt s 0) = true ∧ s.size ≤ 6
theorem colB_iff (s : ByteArray) (h0 : 0 < s.size) : ColB s ↔ (1 ≤ dgs s ∧ dgs s ≤ 18) ∧ dsp s = s.size ∧ s.size ≤ 6 := by
  have key : digit (byt s 0) = true → frn s = 0 := fun h => by
    unfold frn
    rw [if_neg (fun e => by rw [e.2, digit_45] at h; cases h)]
  constructor
  · rintro ⟨h1, h2, h3⟩
    have hf := key h2
    have h4 := (numB_dgs s).1 ⟨h1, by omega⟩
    refine ⟨⟨h4.1, h4.2.1⟩, ?_, h3⟩
    have h5 : dgs s = dsp s := by unfold dgs; rw [hf, ext_all]
    omega
  · rintro ⟨⟨h1, h2⟩, h3, h4⟩
    have h5 : digit (byt s 0) = true := dsp_in s 0 (by omega)
    have hf := key h5
    exact ⟨⟨by omega, fun i _ hi => dsp_in s i (by omega)⟩, h5, h4⟩
theorem colB_hd {s : ByteArray} (h0 : 0 < s.size) (h : ColB s) : hd s = s := by
  have hf : frn s = 0 := by
    unfold frn
    rw [if_neg (fun e => by have := h.2.1; rw [e.2, digit_45] at this; cases this)]
  have h1 := (colB_iff s h0).1 h
  refine hd_all s ?_
  unfold dgs
  rw [hf, ext_all]
  omega
set_option maxHeartbeats 4000000 in
theorem readCols_yes (s : ByteArray) (w : World) (h0 : 0 < s.size) (h : ColB s) : Calls Tryd.prog 46 #[.string s] w fun e w' => e = .returned (.tuple #[.int .i64 (nVal s), .bool true]) ∧ Below w.heap.size w w' := by
  have hs : s.size ≤ 1048576 := by have := h.2.2; omega
  obtain ⟨⟨d1, d2⟩, d3, d4⟩ := (colB_iff s h0).1 h
  have HS := hide (fun W => scanNumber_yes s W h0 hs d1 d2)
  rw [colB_hd h0 h] at HS
  have HP := hide (fun W => spanDig_calls s W hs)
  rw [d3] at HP
  have j6 : ¬ (6 : Int) < (s.size : Int) := by omega
  have j6' : decide ((6 : Int) < (s.size : Int)) = false := by simp; omega
  generalize nVal s = V at *
  clear h d1 d2 d3
  go_enter Tryd.func46, Tryd.ntmps46
  go_wp2_with fail
  refine (unhide HS _).mono ?_; rintro e w1 ⟨rfl, hb1⟩
  have HB1 := hide hb1
  clear hb1
  go_wp2_with fail
  refine (unhide HP _).mono ?_; rintro e w2 ⟨rfl, rfl⟩
  go_wp2
  refine bodyPost_ret (v := .tuple #[.int .i64 V, .bool true]) (by simp [results, Tryd.results46, go_sem]) rfl ⟨rfl, ?_⟩
  (repeat (first | refine Below.setCell ?_ (by dsimp only; omega) _ | refine bA ?_ _ | refine Below.drew ?_)); exact unhide HB1
set_option maxHeartbeats 4000000 in
theorem readCols_no (s : ByteArray) (w : World) (h0 : 0 < s.size) (hs : s.size ≤ 1048576) (h : ¬ ColB s) : Calls Tryd.prog 46 #[.string s] w fun e w' => e = .returned (.tuple #[.int .i64 0, .bool false]) ∧ Below w.heap.size w w' := by
  have hnot := fun x => h ((colB_iff s h0).2 x)
  clear h
  by_cases hdd : 1 ≤ dgs s ∧ dgs s ≤ 18
  · have HS := hide (fun W => scanNumber_yes s W h0 hs hdd.1 hdd.2)
    have HP := hide (fun W => spanDig_calls s W hs)
    generalize hd s = T at *
    generalize nVal T = V at *
    by_cases h3 : dsp s = s.size
    · rw [h3] at HP
      have j6 : (6 : Int) < (s.size : Int) := by
        have : ¬ s.size ≤ 6 := fun e => hnot ⟨hdd, h3, e⟩
        omega
      have j6' : decide ((6 : Int) < (s.size : Int)) = true := by simp; omega
      clear hnot hdd h3
      go_enter Tryd.func46, Tryd.ntmps46
      go_wp2_with fail
      refine (unhide HS _).mono ?_; rintro e w1 ⟨rfl, hb1⟩
      have HB1 := hide hb1
      clear hb1
      go_wp2_with fail
      refine (unhide HP _).mono ?_; rintro e w2 ⟨rfl, rfl⟩
      go_wp2
      refine bodyPost_ret (v := .tuple #[.int .i64 0, .bool false]) (by simp [results, Tryd.results46, go_sem]) rfl ⟨rfl, ?_⟩
      (repeat (first | refine Below.setCell ?_ (by dsimp only; omega) _ | refine bA ?_ _ | refine Below.drew ?_)); exact unhide HB1
    · generalize dsp s = D at *
      have j3 : (((D : Int)) == (s.size : Int)) = false := by simp; omega
      have j3' : (((D : Int)) != (s.size : Int)) = true := by simp [bne, j3]
      clear hnot hdd
      go_enter Tryd.func46, Tryd.ntmps46
      go_wp2_with fail
      refine (unhide HS _).mono ?_; rintro e w1 ⟨rfl, hb1⟩
      have HB1 := hide hb1
      clear hb1
      go_wp2_with fail
      refine (unhide HP _).mono ?_; rintro e w2 ⟨rfl, rfl⟩
      go_wp2
      refine bodyPost_ret (v := .tuple #[.int .i64 0, .bool false]) (by simp [results, Tryd.results46, go_sem]) rfl ⟨rfl, ?_⟩
      (repeat (first | refine Below.setCell ?_ (by dsimp only; omega) _ | refine bA ?_ _ | refine Below.drew ?_)); exact unhide HB1
  · have HS := hide (fun W => scanNumber_no s W h0 hs (by omega))
    clear hnot hdd
    go_enter Tryd.func46, Tryd.ntmps46
    go_wp2_with fail
    refine (unhide HS _).mono ?_; rintro e w1 ⟨rfl, hb1⟩
    have HB1 := hide hb1
    clear hb1
    go_wp2
    refine bodyPost_ret (v := .tuple #[.int .i64 0, .bool false]) (by simp [results, Tryd.results46, go_sem]) rfl ⟨rfl, ?_⟩
    (repeat (first | refine Below.setCell ?_ (by dsimp only; omega) _ | refine bA ?_ _ | refine Below.drew ?_)); exact unhide HB1
theorem clone_calls (s : ByteArray) (w : World) (hs : s.size ≤ 1048576) : Calls Tryd.prog 47 #[.string s] w fun e w' => e = .returned (.string s) ∧ Below w.heap.size w w' := by
  have HS := hide (fun W => sh_stringslite_Clone s W (by omega))
  go_enter Tryd.func47, Tryd.ntmps47
  go_wp2_with fail
  refine (unhide HS _).mono ?_; rintro e w1 ⟨rfl, hb1⟩
  have HB1 := hide hb1
  clear hb1
  go_wp2
  go_ret
  exact ⟨rfl, unhide HB1⟩
def wordsOf (s : ByteArray) : List ByteArray := (cut 32 false s.data.toList).map fun x => ⟨x.toArray⟩
theorem blank_pred (w : World) : PredAtRunes Tryd.prog 33 #[] (fun x => x == 32) w := fun W r hr hb => by
  unfold FnGives
  have HE : Hid (((r : Int) == 32) = (r == 32)) := by
    show _ = _
    by_cases h : r = 32
    · subst h; rfl
    · have h1 : ((r : Int) == 32) = false := by simp; omega
      have h2 : (r == 32) = false := by simp; omega
      rw [h1, h2]
  go_enter Tryd.func33, Tryd.ntmps33
  go_wp2
  go_ret
  exact ⟨congrArg (fun z => Ending.returned (.bool z)) (unhide HE), 0, rfl⟩
theorem lineWords_calls (s : ByteArray) (w : World) (hs : s.size ≤ 1048576) : Calls Tryd.prog 17 #[.string s] w fun e w' => ∃ A, e = .returned (.slice (some ⟨A, 0, none⟩) (wordsOf s).length (wordsOf s).length) ∧ w.heap.size ≤ A ∧
    w'.ownsRow w.heap.size 9 1 (.slice (some ⟨A, 0, none⟩) (wordsOf s).length (wordsOf s).length) (wordsOf s).length ((wordsOf s).map Value.string) ∧ Below w.heap.size w w' := by
  have e : Lib.goFieldsP (fun x => x == 32) s = wordsOf s := by
    have := fields_cut s.data.toList
    unfold wordsOf
    rw [← this]
  have HF := hide (fun W => sh_strings_FieldsFunc_runes 33 #[] (enters_of Tryd.func33 (by kernel_rfl) rfl) (fun x => x == 32) s W (by omega) (blank_pred W))
  rw [e] at HF
  generalize wordsOf s = ws at *
  clear e
  go_enter Tryd.func17, Tryd.ntmps17
  go_wp2_with fail
  refine (unhide HF _).mono ?_; rintro e w1 ⟨A, rfl, hA, ho, hb1⟩
  have HB1 := hide hb1; have HO := hide ho
  clear hb1 ho
  go_wp2
  go_ret
  exact ⟨A, rfl, hA, unhide HO, unhide HB1⟩
end Go.Proofs.YteebidljiemegaaDoor
