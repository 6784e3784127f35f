/-
  slices.Equal AT INTS.
-/
import Derived.Test.YtnjnonmpfalfeabDoorNodeKit
import Derived.BigQuiet
import Derived.Deep.RegionHeld3
import Derived.Deep.DeepCutAuto
namespace Go.Proofs.YtnjnonmpfalfeabDoor
open Go Go.RowKit

theorem take_ne {xs ys : List Int} {k : Nat} (h1 : k < xs.length) (h2 : k < ys.length) (h : xs[k] ≠ ys[k]) : xs ≠ ys := fun e => by subst e; exact h rfl
theorem eq_of_takes {xs ys : List Int} (hl : xs.length = ys.length) (h : xs.take xs.length = ys.take xs.length) : xs = ys := by
  rw [List.take_length, hl, List.take_length] at h; exact h

set_option maxHeartbeats 1000000 in
theorem slicesEq_calls (xs ys : List Int) (g cap : Nat) (a2 : Option Addr) (cap2 : Nat) (w : World) (hg : g < w.heap.size) (hx : IntsAt w g 0 xs)
    (hy : ys = [] ∨ ∃ g2 off, a2 = some ⟨g2, off, none⟩ ∧ g2 < w.heap.size ∧ IntsAt w g2 off ys) (hl : xs.length ≤ 1048576) :
    Calls Tryd.prog 47 #[.slice (some ⟨g, 0, none⟩) xs.length cap, .slice a2 ys.length cap2] w fun e w' => e = .returned (.bool (decide (xs = ys))) ∧ Below w.heap.size w w' := by
  cases hne : ((xs.length : Int) != (ys.length : Int))
  · have hle : xs.length = ys.length := by simp at hne; omega
    have HL := hide hle
    have HY := hide hy
    clear hy hle
    go_enter Tryd.func47, Tryd.ntmps47
    go_wp2
    go_loopw [5, 13] (fun _ c wr => ∃ k : Nat, k ≤ xs.length ∧ c = .int .i64 k ∧ xs.take k = ys.take k ∧ Below w.heap.size w wr) (fun _ c _ => xs.length - (intOf c).toNat)
    case atStart => exact ⟨0, Nat.zero_le _, rfl, rfl, Below.refl _ _⟩
    case round =>
      obtain ⟨k, hk, rfl, ht, hb⟩ := hrel
      have HT := hide ht
      clear ht
      by_cases hlt : k < xs.length
      · have hlt2 : k < ys.length := by have := unhide HL; omega
        obtain ⟨g2, off, rfl, hg2, hyr⟩ : ∃ g2 off, a2 = some ⟨g2, off, none⟩ ∧ g2 < w.heap.size ∧ IntsAt w g2 off ys := by
          rcases unhide HY with h | h
          · subst h; simp at hlt2
          · exact h
        have x0 := (hx.of hg hb).at k hlt
        have y0 := (hyr.of hg2 hb).at k hlt2
        simp only [Nat.zero_add] at x0
        have j1 : (k : Int) < (xs.length : Int) := by omega
        have j2 : (k : Int) < (ys.length : Int) := by omega
        have q1 : g < wr.heap.size := Nat.lt_of_lt_of_le hg hb.size
        have q2 : g2 < wr.heap.size := Nat.lt_of_lt_of_le hg2 hb.size
        have hnext : xs[k] = ys[k] → xs.take (k + 1) = ys.take (k + 1) := fun h => by rw [take_snocN xs k hlt, take_snocN ys k hlt2, unhide HT, h]
        have hbad : xs[k] ≠ ys[k] → decide (xs = ys) = false := fun h => decide_eq_false (take_ne hlt hlt2 h)
        generalize xs[k] = x at *
        generalize ys[k] = y at *
        by_cases he : x = y
        · have he' : (x != y) = false := by simp [he]
          have HN := hide (hnext he)
          clear hnext hbad he HT
          go_upto_region 6 with fail
          go_quiet (fail)
          go_wp2
          go_roundw
          case rel => exact ⟨k + 1, by omega, by go_num, unhide HN, below_drewN hb _⟩
          case measure => simp [intOf]; omega
        · have he' : (x != y) = true := by simp [he]
          have HB := hide (hbad he)
          clear hnext hbad he HT
          go_upto_region 6 with fail
          go_quiet (fail)
          go_wp2
          go_ret
          exact ⟨congrArg (fun z => Ending.returned (.bool z)) (unhide HB).symm, below_drewN hb _⟩
      · obtain rfl : k = xs.length := by omega
        have HE : Hid (decide (xs = ys) = true) := decide_eq_true (eq_of_takes (unhide HL) (unhide HT))
        clear HT
        go_wp2
        go_ret
        exact ⟨congrArg (fun z => Ending.returned (.bool z)) HE.out.symm, hb⟩
  · have HE : Hid (decide (xs = ys) = false) := decide_eq_false (fun e => by subst e; simp at hne)
    clear hy
    go_enter Tryd.func47, Tryd.ntmps47
    go_wp2
    go_ret
    exact ⟨congrArg (fun z => Ending.returned (.bool z)) HE.out.symm, Below.refl _ _⟩
end Go.Proofs.YtnjnonmpfalfeabDoor
