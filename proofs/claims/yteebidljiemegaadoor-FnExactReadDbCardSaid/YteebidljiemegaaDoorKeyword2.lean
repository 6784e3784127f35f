import Derived.Test.YteebidljiemegaaDoorNodeKit
namespace Go.Proofs.YteebidljiemegaaDoor
open Go Go.RowKit
def kwB (k : Nat) : ByteArray := ⟨(kws.getD k []).toArray⟩
theorem kwB_toList (k : Nat) : (kwB k).toList = kws.getD k [] := Go.ByteArray.toList_mk _
abbrev TKw (w : World) : Prop := TabAt w 3 [.string ⟨#[83, 69, 76, 69, 67, 84]⟩, .string ⟨#[68, 73, 83, 84, 73, 78, 67, 84]⟩, .string ⟨#[70, 82, 79, 77]⟩, .string ⟨#[87, 72, 69, 82, 69]⟩, .string ⟨#[85, 78, 73, 79, 78]⟩, .string ⟨#[65, 76, 76]⟩, .string ⟨#[65, 78, 89]⟩, .string ⟨#[65, 78, 68]⟩, .string ⟨#[79, 82]⟩, .string ⟨#[78, 79, 84]⟩, .string ⟨#[69, 88, 73, 83, 84, 83]⟩, .string ⟨#[73, 78]⟩, .string ⟨#[73, 83]⟩, .string ⟨#[78, 85, 76, 76]⟩, .string ⟨#[67, 79, 85, 78, 84]⟩, .string ⟨#[77, 73, 78]⟩, .string ⟨#[77, 65, 88]⟩]
theorem kw_index (k : Nat) (hk : k < 17) (w : World) : (Instr.index 98 (.agg #[.string ⟨#[83, 69, 76, 69, 67, 84]⟩, .string ⟨#[68, 73, 83, 84, 73, 78, 67, 84]⟩, .string ⟨#[70, 82, 79, 77]⟩, .string ⟨#[87, 72, 69, 82, 69]⟩, .string ⟨#[85, 78, 73, 79, 78]⟩, .string ⟨#[65, 76, 76]⟩, .string ⟨#[65, 78, 89]⟩, .string ⟨#[65, 78, 68]⟩, .string ⟨#[79, 82]⟩, .string ⟨#[78, 79, 84]⟩, .string ⟨#[69, 88, 73, 83, 84, 83]⟩, .string ⟨#[73, 78]⟩, .string ⟨#[73, 83]⟩, .string ⟨#[78, 85, 76, 76]⟩, .string ⟨#[67, 79, 85, 78, 84]⟩, .string ⟨#[77, 73, 78]⟩, .string ⟨#[77, 65, 88]⟩]) (.int .i64 (k : Int))).run Tryd.prog w = .ok (.string (kwB k)) w := by
  rcases (show k = 0 ∨ k = 1 ∨ k = 2 ∨ k = 3 ∨ k = 4 ∨ k = 5 ∨ k = 6 ∨ k = 7 ∨ k = 8 ∨ k = 9 ∨ k = 10 ∨ k = 11 ∨ k = 12 ∨ k = 13 ∨ k = 14 ∨ k = 15 ∨ k = 16 from by omega) with rfl | rfl | rfl | rfl | rfl | rfl | rfl | rfl | rfl | rfl | rfl | rfl | rfl | rfl | rfl | rfl | rfl <;> kernel_rfl
set_option maxHeartbeats 4000000 in
theorem isKeyword_calls (s : ByteArray) (w : World) (hT : TKw w) : Calls Tryd.prog 62 #[.string s] w fun e w' => e = .returned (.bool (decide (s.toList ∈ kws))) ∧ w' = w := by
  have c0 : w.cell? ⟨3, 0, none⟩ = some (.string ⟨#[83, 69, 76, 69, 67, 84]⟩) := hT.cell 0
  have c1 : w.cell? ⟨3, 1, none⟩ = some (.string ⟨#[68, 73, 83, 84, 73, 78, 67, 84]⟩) := hT.cell 1
  have c2 : w.cell? ⟨3, 2, none⟩ = some (.string ⟨#[70, 82, 79, 77]⟩) := hT.cell 2
  have c3 : w.cell? ⟨3, 3, none⟩ = some (.string ⟨#[87, 72, 69, 82, 69]⟩) := hT.cell 3
  have c4 : w.cell? ⟨3, 4, none⟩ = some (.string ⟨#[85, 78, 73, 79, 78]⟩) := hT.cell 4
  have c5 : w.cell? ⟨3, 5, none⟩ = some (.string ⟨#[65, 76, 76]⟩) := hT.cell 5
  have c6 : w.cell? ⟨3, 6, none⟩ = some (.string ⟨#[65, 78, 89]⟩) := hT.cell 6
  have c7 : w.cell? ⟨3, 7, none⟩ = some (.string ⟨#[65, 78, 68]⟩) := hT.cell 7
  have c8 : w.cell? ⟨3, 8, none⟩ = some (.string ⟨#[79, 82]⟩) := hT.cell 8
  have c9 : w.cell? ⟨3, 9, none⟩ = some (.string ⟨#[78, 79, 84]⟩) := hT.cell 9
  have c10 : w.cell? ⟨3, 10, none⟩ = some (.string ⟨#[69, 88, 73, 83, 84, 83]⟩) := hT.cell 10
  have c11 : w.cell? ⟨3, 11, none⟩ = some (.string ⟨#[73, 78]⟩) := hT.cell 11
  have c12 : w.cell? ⟨3, 12, none⟩ = some (.string ⟨#[73, 83]⟩) := hT.cell 12
  have c13 : w.cell? ⟨3, 13, none⟩ = some (.string ⟨#[78, 85, 76, 76]⟩) := hT.cell 13
  have c14 : w.cell? ⟨3, 14, none⟩ = some (.string ⟨#[67, 79, 85, 78, 84]⟩) := hT.cell 14
  have c15 : w.cell? ⟨3, 15, none⟩ = some (.string ⟨#[77, 73, 78]⟩) := hT.cell 15
  have c16 : w.cell? ⟨3, 16, none⟩ = some (.string ⟨#[77, 65, 88]⟩) := hT.cell 16
  have hix := kw_index
  have hz := hT.size
  clear hT
  go_enter Tryd.func62, Tryd.ntmps62
  go_wp2
  go_loopw [4, 6] (fun _ i wr => ∃ k : Nat, k ≤ 17 ∧ i = .int .i64 k ∧ (∀ j, j < k → kws.getD j [] ≠ s.toList) ∧ wr = w) (fun _ i _ => 17 - (intOf i).toNat)
  case atStart => exact ⟨0, by omega, rfl, fun j hj => by omega, rfl⟩
  case round =>
    obtain ⟨k, hk, rfl, hno, rfl⟩ := hrel
    by_cases hlt : k < 17
    · have hi := hix k hlt
      clear hix
      by_cases he : kws.getD k [] = s.toList
      · have h1 : ((kwB k).toList == s.toList) = true := by rw [kwB_toList, he]; simp
        have HE : Hid (decide (s.toList ∈ kws) = true) := by
          show _ = _
          rw [decide_eq_true_eq, ← he]
          have : kws.length = 17 := rfl
          rw [List.getD_eq_getElem?_getD, List.getElem?_eq_getElem (by omega)]
          simp
        go_wp2
        go_ret
        exact ⟨congrArg (fun z => Ending.returned (.bool z)) HE.out.symm, rfl⟩
      · have h1 : ((kwB k).toList == s.toList) = false := by rw [kwB_toList]; exact beq_eq_false_iff_ne.2 he
        have Hno := hide hno
        have He := hide he
        clear hno he
        go_wp2
        go_roundw
        case rel =>
          refine ⟨k + 1, by omega, by go_num, fun j hj => ?_, by first | rfl | trivial⟩
          by_cases e : j = k
          · subst e; exact unhide He
          · exact unhide Hno j (by omega)
        case measure => simp [intOf]; omega
    · obtain rfl : k = 17 := by omega
      have HE : Hid (decide (s.toList ∈ kws) = false) := by
        show _ = _
        rw [decide_eq_false_iff_not]
        intro hm
        obtain ⟨j, hj, e⟩ := List.mem_iff_getElem.1 hm
        have : kws.length = 17 := rfl
        refine hno j (by omega) ?_
        rw [List.getD_eq_getElem?_getD, List.getElem?_eq_getElem hj]
        simpa using e
      go_wp2
      go_ret
      exact ⟨congrArg (fun z => Ending.returned (.bool z)) HE.out.symm, rfl⟩
end Go.Proofs.YteebidljiemegaaDoor
