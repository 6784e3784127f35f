import Derived.Test.YteebidljiemegaaDoorNameFns3
import Derived.Test.YteebidljiemegaaDoorDbMath
import Derived.Maps.OwnSet
namespace Go.Proofs.YteebidljiemegaaDoor
open Go Go.RowKit
set_option maxHeartbeats 1000000 in
theorem isName_calls (s : ByteArray) (w : World) (hs : s.size ≤ 1048576) (hT : TKw w) : Calls Tryd.prog 49 #[.string s] w fun e w' => e = .returned (.bool (dB (NameB s))) ∧ w' = w := by
  have LC := fun w => isLetter_calls (byt s 0) w
  have SC := fun w => spanLen_calls s w hs
  have KC := isKeyword_calls s w hT
  have HN : Hid (NameB s ↔ (s.toList ≠ [] ∧ s.size ≤ 64 ∧ letter (byt s 0) = true ∧ spn s = s.size ∧ decide (s.toList ∈ kws) = false)) := by
    show _ ↔ _
    rw [name_iff, decide_eq_false_iff_not]
  clear hT
  generalize decide (s.toList ∈ kws) = k at *
  cases he : (s.toList == ([] : List UInt8))
  · have hne : s.toList ≠ [] := beq_eq_false_iff_ne.1 he
    have hpos : 0 < s.size := by rw [← size_toList]; exact List.length_pos_iff.2 hne
    have HNe := hide hne
    clear hne
    by_cases h64 : (s.size : Int) ≤ 64
    · have eb := byt_eq s 0 hpos
      have j0 : (0 : Int) < (s.size : Int) := by omega
      have hsp := spn_le s
      generalize byt s 0 = c at *
      generalize letter c = l at *
      generalize spn s = m at *
      cases l
      · have HE : Hid (dB (NameB s) = false) := dB_false (fun h => by have := (HN.out.1 h).2.2.1; cases this)
        have HL := hide LC; have HS := hide SC; have HKC := hide KC
        clear LC SC KC HN
        go_enter Tryd.func49, Tryd.ntmps49
        go_wp2_with fail
        refine (unhide HL _).mono ?_; rintro e w1 ⟨rfl, rfl⟩
        go_wp2
        go_ret
        exact ⟨congrArg (fun z => Ending.returned (.bool z)) HE.out.symm, rfl⟩
      · by_cases hm : m = s.size
        · have hm' : ((m : Int) == (s.size : Int)) = true := by simp [hm]
          have HM := hide hm
          clear hm
          cases k
          · have HE : Hid (dB (NameB s) = true) := dB_true (HN.out.2 ⟨unhide HNe, by omega, rfl, unhide HM, rfl⟩)
            clear HM
            have HL := hide LC; have HS := hide SC; have HKC := hide KC
            clear LC SC KC HN
            go_enter Tryd.func49, Tryd.ntmps49
            go_wp2_with fail
            refine (unhide HL _).mono ?_; rintro e w1 ⟨rfl, rfl⟩
            go_wp2_with fail
            refine (unhide HS _).mono ?_; rintro e w1 ⟨rfl, rfl⟩
            go_wp2_with fail
            refine (unhide HKC).mono ?_; rintro e w1 ⟨rfl, rfl⟩
            go_wp2
            go_ret
            exact ⟨congrArg (fun z => Ending.returned (.bool z)) HE.out.symm, rfl⟩
          · have HE : Hid (dB (NameB s) = false) := dB_false (fun h => by have := (HN.out.1 h).2.2.2.2; cases this)
            clear HM
            have HL := hide LC; have HS := hide SC; have HKC := hide KC
            clear LC SC KC HN
            go_enter Tryd.func49, Tryd.ntmps49
            go_wp2_with fail
            refine (unhide HL _).mono ?_; rintro e w1 ⟨rfl, rfl⟩
            go_wp2_with fail
            refine (unhide HS _).mono ?_; rintro e w1 ⟨rfl, rfl⟩
            go_wp2_with fail
            refine (unhide HKC).mono ?_; rintro e w1 ⟨rfl, rfl⟩
            go_wp2
            go_ret
            exact ⟨congrArg (fun z => Ending.returned (.bool z)) HE.out.symm, rfl⟩
        · have hm' : ((m : Int) == (s.size : Int)) = false := by simp; omega
          have HE : Hid (dB (NameB s) = false) := dB_false (fun h => hm (HN.out.1 h).2.2.2.1)
          clear hm
          have HL := hide LC; have HS := hide SC; have HKC := hide KC
          clear LC SC KC HN
          go_enter Tryd.func49, Tryd.ntmps49
          go_wp2_with fail
          refine (unhide HL _).mono ?_; rintro e w1 ⟨rfl, rfl⟩
          go_wp2_with fail
          refine (unhide HS _).mono ?_; rintro e w1 ⟨rfl, rfl⟩
          go_wp2
          go_ret
          exact ⟨congrArg (fun z => Ending.returned (.bool z)) HE.out.symm, rfl⟩
    · have HE : Hid (dB (NameB s) = false) := dB_false (fun h => by have := (HN.out.1 h).2.1; omega)
      have HL := hide LC; have HS := hide SC; have HKC := hide KC
      clear LC SC KC HN
      go_enter Tryd.func49, Tryd.ntmps49
      go_wp2
      go_ret
      exact ⟨congrArg (fun z => Ending.returned (.bool z)) HE.out.symm, rfl⟩
  · have HE : Hid (dB (NameB s) = false) := dB_false (fun h => (HN.out.1 h).1 (by simpa using he))
    have HL := hide LC; have HS := hide SC; have HKC := hide KC
    clear LC SC KC HN
    go_enter Tryd.func49, Tryd.ntmps49
    go_wp2
    go_ret
    exact ⟨congrArg (fun z => Ending.returned (.bool z)) HE.out.symm, rfl⟩
end Go.Proofs.YteebidljiemegaaDoor
namespace Go.Proofs.YteebidljiemegaaDoor
open Go Go.RowKit
theorem lawS : Maps.Keyed Tryd.prog 9 := Maps.string_keyed Tryd.underlying9
theorem make_map (n : Nat) (w : World) : (Instr.makeMap 58 (some (.int .i64 (n : Int)))).run Tryd.prog w = .ok (.map (some w.heap.size)) (w.alloc (.map #[] 0)) := by
  have h := run_underlying (w := w) Tryd.underlying58
  simp [Instr.makeMap, h, asInt, Result.andThen]
  rfl
end Go.Proofs.YteebidljiemegaaDoor
