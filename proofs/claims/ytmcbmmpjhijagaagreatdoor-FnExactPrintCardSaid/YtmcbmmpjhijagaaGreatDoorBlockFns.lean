import Derived.Test.YtmcbmmpjhijagaaGreatDoorKindFns
namespace Go.Proofs.YtmcbmmpjhijagaaGreatDoor
open Go Go.RowKit
theorem IntsAt.drop {w : World} {g off : Nat} {xs : List Int} (h : IntsAt w g off xs) (m : Nat) : IntsAt w g (off + m) (xs.drop m) := fun i x hx => by
  rw [List.getElem?_drop] at hx
  have := h (m + i) x hx
  rw [show off + m + i = off + (m + i) by omega]
  exact this
theorem IntsAt.take {w : World} {g off : Nat} {xs : List Int} (h : IntsAt w g off xs) (m : Nat) : IntsAt w g off (xs.take m) := fun i x hx => by
  have hi := (List.getElem?_eq_some_iff.1 hx).1
  rw [List.getElem?_take] at hx
  split at hx
  · exact h i x hx
  · cases hx
theorem dropLast_take (xs : List Int) (m : Nat) : (xs.drop m).dropLast = (xs.drop m).take (xs.length - m - 1) := by
  rw [List.dropLast_eq_take, List.length_drop]
theorem BlkI_iff (xs : List Int) (m : Nat) (h : m ≤ xs.length) (ys : List Int) (hy : cutI (xs.drop m) = ys) :
    BlkI xs m ↔ (dB ((∀ x ∈ xs.take m, scB x = true) ∧ (0 : Int) ≤ ((xs.take m).length : Int)) = true ∧ dB ((∀ x ∈ ys, fives x = true) ∧ (1 : Int) ≤ (ys.length : Int)) = true) := by
  unfold BlkI
  simp only [Int.toNat_natCast]
  rw [hy, dB_iff, dB_iff]
  constructor
  · intro ⟨_, h2, h3, h4⟩; exact ⟨⟨h2, by omega⟩, h3, by omega⟩
  · intro ⟨⟨h2, _⟩, h3, h4⟩; exact ⟨by omega, h2, h3, by omega⟩
set_option maxHeartbeats 2000000 in
theorem blockFits_calls (xs : List Int) (g off m : Nat) (w : World) (hg : g < w.heap.size) (hx : IntsAt w g off xs) (hl : xs.length ≤ 1048576) (hm : m ≤ 1048576) :
    Calls Tryz.prog 58 #[.int .i64 (m : Int), .slice (some ⟨g, off, none⟩) xs.length xs.length] w fun e w' => e = .returned (.bool (dB (BlkI xs m))) ∧ w' = w := by
  by_cases hA : (xs.length : Int) < (m : Int)
  · have HB : Hid (¬ BlkI xs m) := fun h => by have := h.1; omega
    have HE : Hid (dB (BlkI xs m) = false) := dB_false HB.out
    clear HB
    go_enter Tryz.func58, Tryz.ntmps58
    go_wp2
    go_ret
    exact ⟨congrArg (fun z => Ending.returned (.bool z)) HE.out.symm, rfl⟩
  have hle : m ≤ xs.length := by omega
  have hle' : (m : Int) ≤ (xs.length : Int) := by omega
  have AS := allScalar_calls (xs.take m) g off xs.length 0 w (hx.take m) (by simp; omega)
  have hlt : (xs.take m).length = m := by simp; omega
  by_cases h0 : xs.length = m
  · have hr : xs.drop m = [] := by rw [List.drop_eq_nil_iff]; omega
    have HB := hide (BlkI_iff xs m hle [] (by rw [hr]; rfl))
    have BS := allSource_calls [] g off 0 1 w (fun i x hx => by simp at hx) (by simp)
    generalize dB ((∀ x ∈ xs.take m, scB x = true) ∧ (0 : Int) ≤ ((xs.take m).length : Int)) = b1 at *
    generalize dB ((∀ x ∈ ([] : List Int), fives x = true) ∧ (1 : Int) ≤ (([] : List Int).length : Int)) = b2 at *
    rw [hlt] at AS
    rw [List.length_nil] at BS
    have HAS := hide AS; have HBS := hide BS
    have HX := hide hx
    clear AS BS hlt hr hx hA hle hle'
    subst h0
    cases b1
    · have HE : Hid (dB (BlkI xs (xs.length : Int)) = false) := dB_false (fun h => by have := (HB.out.1 h).1; cases this)
      clear HB
      go_enter Tryz.func58, Tryz.ntmps58
      go_wp2_with fail
      refine (unhide HAS).mono ?_; rintro e w1 ⟨rfl, rfl⟩
      go_wp2
      go_ret
      exact ⟨congrArg (fun z => Ending.returned (.bool z)) HE.out.symm, rfl⟩
    · cases b2
      · have HE : Hid (dB (BlkI xs (xs.length : Int)) = false) := dB_false (fun h => by have := (HB.out.1 h).2; cases this)
        clear HB
        go_enter Tryz.func58, Tryz.ntmps58
        go_wp2_with fail
        refine (unhide HAS).mono ?_; rintro e w1 ⟨rfl, rfl⟩
        go_wp2_with fail
        refine (unhide HBS).mono ?_; rintro e w1 ⟨rfl, rfl⟩
        go_wp2
        go_ret
        exact ⟨congrArg (fun z => Ending.returned (.bool z)) HE.out.symm, rfl⟩
      · have HE : Hid (dB (BlkI xs (xs.length : Int)) = true) := dB_true (HB.out.2 ⟨rfl, rfl⟩)
        clear HB
        go_enter Tryz.func58, Tryz.ntmps58
        go_wp2_with fail
        refine (unhide HAS).mono ?_; rintro e w1 ⟨rfl, rfl⟩
        go_wp2_with fail
        refine (unhide HBS).mono ?_; rintro e w1 ⟨rfl, rfl⟩
        go_wp2
        go_ret
        exact ⟨congrArg (fun z => Ending.returned (.bool z)) HE.out.symm, rfl⟩
  have hlast : xs.length - 1 < xs.length := by omega
  have e0 := hx.at (xs.length - 1) hlast
  obtain ⟨L, hLl⟩ : ∃ L, xs.length = m + (L + 1) := ⟨xs.length - m - 1, by omega⟩
  rw [show off + (xs.length - 1) = off + m + L by omega] at e0
  have CC := isCond_calls xs[xs.length - 1] w
  have hgl : (xs.drop m).getLast? = some xs[xs.length - 1] := by
    rw [List.getLast?_eq_getElem?, List.getElem?_drop, List.length_drop, show m + (xs.length - m - 1) = xs.length - 1 by omega, List.getElem?_eq_getElem hlast]
  have hcut : cutI (xs.drop m) = if cdB xs[xs.length - 1] = true then (xs.drop m).dropLast else xs.drop m := by
    unfold cutI
    rw [hgl]
    simp
  generalize xs[xs.length - 1] = x at *
  generalize hcd : cdB x = c at *
  have j2 : (m : Int) < (xs.length : Int) := by omega
  cases c
  · have HB := hide (BlkI_iff xs m hle (xs.drop m) (by rw [hcut]; rfl))
    have BS := allSource_calls (xs.drop m) g (off + m) (xs.length - m) 1 w (hx.drop m) (by simp; omega)
    generalize dB ((∀ x ∈ xs.take m, scB x = true) ∧ (0 : Int) ≤ ((xs.take m).length : Int)) = b1 at *
    generalize dB ((∀ x ∈ xs.drop m, fives x = true) ∧ (1 : Int) ≤ ((xs.drop m).length : Int)) = b2 at *
    rw [hlt] at AS
    rw [List.length_drop, show xs.length - m = L + 1 by omega] at BS
    have HAS := hide AS; have HBS := hide BS; have HCC := hide CC
    clear AS BS CC hlt hx hcut hgl hA hle hle' h0 hlast hcd
    generalize xs.length = n at *
    subst hLl
    cases b1
    · have HE : Hid (dB (BlkI xs m) = false) := dB_false (fun h => by have := (HB.out.1 h).1; cases this)
      clear HB
      go_enter Tryz.func58, Tryz.ntmps58
      go_wp2_with fail
      refine (unhide HCC).mono ?_; rintro e w1 ⟨rfl, rfl⟩
      go_wp2_with fail
      refine (unhide HAS).mono ?_; rintro e w1 ⟨rfl, rfl⟩
      go_wp2
      go_ret
      exact ⟨congrArg (fun z => Ending.returned (.bool z)) HE.out.symm, rfl⟩
    · cases b2
      · have HE : Hid (dB (BlkI xs m) = false) := dB_false (fun h => by have := (HB.out.1 h).2; cases this)
        clear HB
        go_enter Tryz.func58, Tryz.ntmps58
        go_wp2_with fail
        refine (unhide HCC).mono ?_; rintro e w1 ⟨rfl, rfl⟩
        go_wp2_with fail
        refine (unhide HAS).mono ?_; rintro e w1 ⟨rfl, rfl⟩
        go_wp2_with fail
        refine (unhide HBS).mono ?_; rintro e w1 ⟨rfl, rfl⟩
        go_wp2
        go_ret
        exact ⟨congrArg (fun z => Ending.returned (.bool z)) HE.out.symm, rfl⟩
      · have HE : Hid (dB (BlkI xs m) = true) := dB_true (HB.out.2 ⟨rfl, rfl⟩)
        clear HB
        go_enter Tryz.func58, Tryz.ntmps58
        go_wp2_with fail
        refine (unhide HCC).mono ?_; rintro e w1 ⟨rfl, rfl⟩
        go_wp2_with fail
        refine (unhide HAS).mono ?_; rintro e w1 ⟨rfl, rfl⟩
        go_wp2_with fail
        refine (unhide HBS).mono ?_; rintro e w1 ⟨rfl, rfl⟩
        go_wp2
        go_ret
        exact ⟨congrArg (fun z => Ending.returned (.bool z)) HE.out.symm, rfl⟩
  · have HB := hide (BlkI_iff xs m hle (xs.drop m).dropLast (by rw [hcut]; rfl))
    have BS := allSource_calls (xs.drop m).dropLast g (off + m) (xs.length - m) 1 w (by rw [dropLast_take]; exact (hx.drop m).take _) (by simp; omega)
    generalize dB ((∀ x ∈ xs.take m, scB x = true) ∧ (0 : Int) ≤ ((xs.take m).length : Int)) = b1 at *
    generalize dB ((∀ x ∈ (xs.drop m).dropLast, fives x = true) ∧ (1 : Int) ≤ (((xs.drop m).dropLast).length : Int)) = b2 at *
    rw [hlt] at AS
    rw [List.length_dropLast, List.length_drop, show xs.length - m - 1 = L by omega, show xs.length - m = L + 1 by omega] at BS
    have HAS := hide AS; have HBS := hide BS; have HCC := hide CC
    clear AS BS CC hlt hx hcut hgl hA hle hle' h0 hlast hcd
    generalize xs.length = n at *
    subst hLl
    cases b1
    · have HE : Hid (dB (BlkI xs m) = false) := dB_false (fun h => by have := (HB.out.1 h).1; cases this)
      clear HB
      go_enter Tryz.func58, Tryz.ntmps58
      go_wp2_with fail
      refine (unhide HCC).mono ?_; rintro e w1 ⟨rfl, rfl⟩
      go_wp2_with fail
      refine (unhide HAS).mono ?_; rintro e w1 ⟨rfl, rfl⟩
      go_wp2
      go_ret
      exact ⟨congrArg (fun z => Ending.returned (.bool z)) HE.out.symm, rfl⟩
    · cases b2
      · have HE : Hid (dB (BlkI xs m) = false) := dB_false (fun h => by have := (HB.out.1 h).2; cases this)
        clear HB
        go_enter Tryz.func58, Tryz.ntmps58
        go_wp2_with fail
        refine (unhide HCC).mono ?_; rintro e w1 ⟨rfl, rfl⟩
        go_wp2_with fail
        refine (unhide HAS).mono ?_; rintro e w1 ⟨rfl, rfl⟩
        go_wp2_with fail
        refine (unhide HBS).mono ?_; rintro e w1 ⟨rfl, rfl⟩
        go_wp2
        go_ret
        exact ⟨congrArg (fun z => Ending.returned (.bool z)) HE.out.symm, rfl⟩
      · have HE : Hid (dB (BlkI xs m) = true) := dB_true (HB.out.2 ⟨rfl, rfl⟩)
        clear HB
        go_enter Tryz.func58, Tryz.ntmps58
        go_wp2_with fail
        refine (unhide HCC).mono ?_; rintro e w1 ⟨rfl, rfl⟩
        go_wp2_with fail
        refine (unhide HAS).mono ?_; rintro e w1 ⟨rfl, rfl⟩
        go_wp2_with fail
        refine (unhide HBS).mono ?_; rintro e w1 ⟨rfl, rfl⟩
        go_wp2
        go_ret
        exact ⟨congrArg (fun z => Ending.returned (.bool z)) HE.out.symm, rfl⟩
end Go.Proofs.YtmcbmmpjhijagaaGreatDoor
