/-
  THE SPECIFICATION's SMALL FUNCTIONS ON NODES.
-/
import Derived.Test.YtnjnonmpfalfeabDoorKindFns
import Derived.Test.YtnjnonmpfalfeabDoorNameFns3
namespace Go.Proofs.YtnjnonmpfalfeabDoor
open Go Go.RowKit

theorem short_calls (n : Int) (w : World) : Calls Tryd.prog 60 #[.int .i64 n] w fun e w' => e = .returned (.bool (shortB n)) ∧ w' = w := by
  by_cases h1 : -1000000000000000000 < n
  · have HE : Hid (shortB n = decide (n < 1000000000000000000)) := by show _ = _; simp [shortB, h1]
    go_enter Tryd.func60, Tryd.ntmps60
    go_wp2
    go_ret
    exact ⟨congrArg (fun z => Ending.returned (.bool z)) HE.out.symm, rfl⟩
  · have HE : Hid (shortB n = false) := by show _ = _; simp [shortB, h1]
    go_enter Tryd.func60, Tryd.ntmps60
    go_wp2
    go_ret
    exact ⟨congrArg (fun z => Ending.returned (.bool z)) HE.out.symm, rfl⟩

def onlyB (s : ByteArray) (c least : Int) : Prop := (∀ i, i < s.size → byt s i = c) ∧ least ≤ (s.size : Int)
theorem only_iff (s : ByteArray) (c : UInt8) (least : Nat) : onlyB s (c.toNat : Int) least ↔ only s.toList c least := by
  unfold onlyB only
  rw [size_toList]
  constructor
  · intro ⟨h1, h2⟩
    refine ⟨fun x hx => ?_, by omega⟩
    obtain ⟨i, hi, rfl⟩ := List.mem_iff_getElem.1 hx
    have := h1 i (by rw [← size_toList]; exact hi)
    unfold byt at this
    rw [List.getD_eq_getElem?_getD, List.getElem?_eq_getElem hi] at this
    simp at this
    exact UInt8.toNat_inj.1 (by omega)
  · intro ⟨h1, h2⟩
    refine ⟨fun i hi => ?_, by omega⟩
    have hl : i < s.toList.length := by rw [size_toList]; exact hi
    unfold byt
    rw [List.getD_eq_getElem?_getD, List.getElem?_eq_getElem hl]
    simp
    rw [h1 _ (List.getElem_mem hl)]

set_option maxHeartbeats 1000000 in
theorem only_calls (s : ByteArray) (c least : Int) (w : World) (hs : s.size ≤ 1048576) : Calls Tryd.prog 63 #[.string s, .int .u8 c, .int .i64 least] w fun e w' => e = .returned (.bool (dB (onlyB s c least))) ∧ w' = w := by
  go_enter Tryd.func63, Tryd.ntmps63
  go_wp2
  go_loopw [7] (fun i wr => ∃ k : Nat, k ≤ s.size ∧ i = .int .i64 k ∧ (∀ j, j < k → byt s j = c) ∧ wr = w) (fun i _ => s.size - (intOf i).toNat)
  case atStart => exact ⟨0, Nat.zero_le _, rfl, fun i hi => by omega, rfl⟩
  case round =>
    obtain ⟨k, hk, rfl, hw, rfl⟩ := hrel
    have HW := hide hw
    clear hw
    by_cases hlt : k < s.size
    · have eb := byt_eq s k hlt
      have j1 : (k : Int) < (s.size : Int) := by omega
      have hnext : byt s k = c → ∀ j, j < k + 1 → byt s j = c := fun h j hj => by
        by_cases e : j = k
        · subst e; exact h
        · exact unhide HW j (by omega)
      have hbad : byt s k ≠ c → ¬ onlyB s c least := fun h hh => h (hh.1 k hlt)
      have Hn := hide hnext; have Hb := hide hbad
      clear hnext hbad
      generalize byt s k = d at *
      by_cases h : d = c
      · have h' : (d != c) = false := by simp [h]
        have H := hide h
        clear h
        go_wp2
        go_roundw
        case rel => exact ⟨k + 1, by omega, by go_num, unhide Hn (unhide H), by first | rfl | trivial⟩
        case measure => simp [intOf]; omega
      · have h' : (d != c) = true := by simp [h]
        have H := hide h
        clear h
        go_wp2
        go_ret
        exact ⟨congrArg (fun z => Ending.returned (.bool z)) (dB_false (unhide Hb (unhide H))).symm, rfl⟩
    · obtain rfl : k = s.size := by omega
      have HE : Hid (dB (onlyB s c least) = decide (least ≤ (s.size : Int))) := by
        show _ = _
        rw [Bool.eq_iff_iff, dB_iff, decide_eq_true_eq]
        exact ⟨fun h => h.2, fun h => ⟨unhide HW, h⟩⟩
      clear HW
      go_wp2
      go_ret
      exact ⟨congrArg (fun z => Ending.returned (.bool z)) HE.out.symm, rfl⟩

def mkS (l : List UInt8) : ByteArray := ⟨l.toArray⟩
theorem mkS_toList (l : List UInt8) : (mkS l).toList = l := Go.ByteArray.toList_mk l
theorem mkS_size (l : List UInt8) : (mkS l).size = l.length := by rw [← size_toList, mkS_toList]
theorem ext_toList {a b : ByteArray} (h : a.toList = b.toList) : a = b := by
  rw [Go.ByteArray.toList_eq, Go.ByteArray.toList_eq] at h
  cases a; cases b
  simp at h
  rw [h]
theorem eq_mkS (s : ByteArray) : s = mkS s.toList := ext_toList (mkS_toList _).symm
theorem extract_toList (s : ByteArray) (a b : Nat) : (s.extract a b).toList = (s.toList.drop a).take (b - a) := by
  rw [Go.ByteArray.toList_eq, Go.ByteArray.toList_eq, ByteArray.data_extract, Array.toList_extract]
end Go.Proofs.YtnjnonmpfalfeabDoor
