/-
  THE SPECIFICATION's LETTERS OF THE KIDS' KINDS.
-/
import Derived.Test.YtnjnonmpfalfeabDoorSpecFns
namespace Go.Proofs.YtnjnonmpfalfeabDoor
open Go Go.RowKit

theorem mkS_add (P : Program) (w : World) (l : List UInt8) (c : UInt8) (h : l.length ≤ 1048576) : (Op.stringOp .add (mkS l) ⟨#[c]⟩).run P w = .ok (.string (mkS (l ++ [c]))) w := by
  have := run_string_add_lists (P := P) w l [c] (by omega) (by simp)
  exact this
/-- the kids of a node are places of the list -/
def KidsIn (ns : List Nd) (ks : List Int) : Prop := ∀ x ∈ ks, 0 ≤ x ∧ x < (ns.length : Int)
theorem kindsOf_take (ns : List Nd) (ks : List Int) (k : Nat) (hk : k < ks.length) : ((kindsOf ns ks).map ltr).take (k + 1) = ((kindsOf ns ks).map ltr).take k ++ [ltr (kindAt ns (ks[k]).toNat)] := by
  have hl : k < ((kindsOf ns ks).map ltr).length := by simp [kindsOf, hk]
  rw [take_snocN _ k hl]
  simp [kindsOf]

set_option maxHeartbeats 2000000 in
theorem kinds_calls (ns : List Nd) (g cap i : Nat) (w : World) (hg : g < w.heap.size) (hn : NodesAt w g 0 ns) (_ : ns.length ≤ 10000) (hi : i < ns.length) (hk : KidsIn ns (ns[i]).Kids) (hkl : (ns[i]).Kids.length ≤ 10000) :
    Calls Tryd.prog 59 #[.slice (some ⟨g, 0, none⟩) ns.length cap, .int .i64 (i : Int)] w fun e w' => e = .returned (.string (mkS ((kindsOf ns (ns[i]).Kids).map ltr))) ∧ w' = w := by
  obtain ⟨⟨_, _, _, _, _⟩, kg, c5, _, hkg, hks⟩ := hn.at i hi
  generalize (ns[i]).Kids = ks at *
  have j0 : (i : Int) < (ns.length : Int) := by omega
  have hlen : ((kindsOf ns ks).map ltr).length = ks.length := by simp [kindsOf]
  have htk := kindsOf_take ns ks
  have HK := hide hk; have HT := hide htk; have HN := hide hn; have HS := hide hks; have HLn := hide hlen
  clear hk htk hn hks hlen
  simp only [Nat.zero_add] at c5
  go_enter Tryd.func59, Tryd.ntmps59
  go_wp2
  go_loopw [5, 6, 7] (fun o c _ wr => ∃ k : Nat, k ≤ ks.length ∧ c = .int .i64 k ∧ o = .string (mkS (((kindsOf ns ks).map ltr).take k)) ∧ wr = w) (fun _ c _ _ => ks.length - (intOf c).toNat)
  case atStart => exact ⟨0, Nat.zero_le _, rfl, rfl, rfl⟩
  case round =>
    obtain ⟨k, hk, rfl, rfl, rfl⟩ := hrel
    by_cases hlt : k < ks.length
    · have j1 : (k : Int) < (ks.length : Int) := by omega
      have e0 := (unhide HS).at k hlt
      obtain ⟨p, hp⟩ := Int.eq_ofNat_of_zero_le ((unhide HK) ks[k] (List.getElem_mem hlt)).1
      have hpl : p < ns.length := by have := ((unhide HK) ks[k] (List.getElem_mem hlt)).2; omega
      obtain ⟨⟨d0, _, _, _, _⟩, _⟩ := (unhide HN).at p hpl
      have j2 : (p : Int) < (ns.length : Int) := by omega
      have ht := unhide HT k hlt
      rw [hp] at ht
      rw [show ((p : Int)).toNat = p by simp, kindAt_some (List.getElem?_eq_getElem hpl)] at ht
      rw [hp] at e0
      simp only [Nat.zero_add] at e0 d0
      generalize (ns[p]).K = K at *
      have hll : (((kindsOf ns ks).map ltr).take k).length ≤ 1048576 := by have := unhide HLn; simp at this ⊢; omega
      have SC := fun w => sIsScalar_calls K w
      have QC := fun w => sIsQuery_calls K w
      have A1 := fun w => mkS_add Tryd.prog w (((kindsOf ns ks).map ltr).take k) 115 hll
      have A2 := fun w => mkS_add Tryd.prog w (((kindsOf ns ks).map ltr).take k) 102 hll
      have A3 := fun w => mkS_add Tryd.prog w (((kindsOf ns ks).map ltr).take k) 113 hll
      have A4 := fun w => mkS_add Tryd.prog w (((kindsOf ns ks).map ltr).take k) 99 hll
      have HTk := hide ht
      clear ht hll
      generalize ((kindsOf ns ks).map ltr).take k = l at *
      have HL : Hid (ltr K = if scB K then 115 else if K = 5 then 102 else if quB K then 113 else 99) := rfl
      generalize scB K = b1 at *
      generalize quB K = b2 at *
      have HSC := hide SC; have HQC := hide QC
      clear SC QC hp
      cases b1
      · cases h5 : (K == 5)
        · have h5' : ¬ K = 5 := by simpa using h5
          cases b2
          · have HX : Hid (mkS (l ++ [99]) = mkS (((kindsOf ns ks).map ltr).take (k + 1))) := by show _ = _; rw [unhide HTk, HL.out]; simp [h5']
            clear HL HTk h5'
            go_wp2_with fail
            refine (unhide HSC _).mono ?_; rintro e w1 ⟨rfl, rfl⟩
            go_wp2_with fail
            refine (unhide HQC _).mono ?_; rintro e w1 ⟨rfl, rfl⟩
            go_wp2
            go_roundw
            case rel => exact ⟨k + 1, by omega, by go_num, by rw [← HX.out], by first | rfl | trivial⟩
            case measure => simp [intOf]; omega
          · have HX : Hid (mkS (l ++ [113]) = mkS (((kindsOf ns ks).map ltr).take (k + 1))) := by show _ = _; rw [unhide HTk, HL.out]; simp [h5']
            clear HL HTk h5'
            go_wp2_with fail
            refine (unhide HSC _).mono ?_; rintro e w1 ⟨rfl, rfl⟩
            go_wp2_with fail
            refine (unhide HQC _).mono ?_; rintro e w1 ⟨rfl, rfl⟩
            go_wp2
            go_roundw
            case rel => exact ⟨k + 1, by omega, by go_num, by rw [← HX.out], by first | rfl | trivial⟩
            case measure => simp [intOf]; omega
        · have h5' : K = 5 := by simpa using h5
          have HX : Hid (mkS (l ++ [102]) = mkS (((kindsOf ns ks).map ltr).take (k + 1))) := by show _ = _; rw [unhide HTk, HL.out]; simp [h5']
          clear HL HTk h5'
          go_wp2_with fail
          refine (unhide HSC _).mono ?_; rintro e w1 ⟨rfl, rfl⟩
          go_wp2
          go_roundw
          case rel => exact ⟨k + 1, by omega, by go_num, by rw [← HX.out], by first | rfl | trivial⟩
          case measure => simp [intOf]; omega
      · have HX : Hid (mkS (l ++ [115]) = mkS (((kindsOf ns ks).map ltr).take (k + 1))) := by show _ = _; rw [unhide HTk, HL.out]; simp
        clear HL HTk
        go_wp2_with fail
        refine (unhide HSC _).mono ?_; rintro e w1 ⟨rfl, rfl⟩
        go_wp2
        go_roundw
        case rel => exact ⟨k + 1, by omega, by go_num, by rw [← HX.out], by first | rfl | trivial⟩
        case measure => simp [intOf]; omega
    · obtain rfl : k = ks.length := by omega
      have HE : Hid (mkS (((kindsOf ns ks).map ltr).take ks.length) = mkS ((kindsOf ns ks).map ltr)) := by show _ = _; rw [List.take_of_length_le (by rw [unhide HLn]; exact Nat.le_refl _)]
      generalize mkS (((kindsOf ns ks).map ltr).take ks.length) = z at *
      go_wp2
      go_ret
      exact ⟨congrArg (fun z => Ending.returned (.string z)) HE.out, rfl⟩
end Go.Proofs.YtnjnonmpfalfeabDoor
