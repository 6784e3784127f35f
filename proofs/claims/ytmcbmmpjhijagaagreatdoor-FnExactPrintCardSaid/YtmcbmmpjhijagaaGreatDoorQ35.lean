import Derived.Test.YtmcbmmpjhijagaaGreatDoorQ3
import Derived.BigQuiet
import Derived.Deep.RegionHeld3
import Derived.Deep.DeepCutAuto
import Derived.Test.YtmcbmmpjhijagaaGreatDoorQ32
import Derived.Test.YtmcbmmpjhijagaaGreatDoorQ6
namespace Go.Proofs.YtmcbmmpjhijagaaGreatDoor
open Go Go.RowKit
theorem take_ne {xs ys : List Int} {k : Nat} (h1 : k < xs.length) (h2 : k < ys.length) (h : xs[k] ≠ ys[k]) : xs ≠ ys := fun e => by subst e; exact h rfl
theorem eq_of_takes {xs ys : List Int} (hl : xs.length = ys.length) (h : xs.take xs.length = ys.take xs.length) : xs = ys := by
  rw [List.take_length, hl, List.take_length] at h; exact h
set_option maxHeartbeats 1000000 in
theorem slicesEq_calls (xs ys : List Int) (g cap : Nat) (a2 : Option Addr) (cap2 : Nat) (w : World) (hg : g < w.heap.size) (hx : IntsAt w g 0 xs)
    (hy : ys = [] ∨ ∃ g2 off, a2 = some ⟨g2, off, none⟩ ∧ g2 < w.heap.size ∧ IntsAt w g2 off ys) (hl : xs.length ≤ 1048576) :
    Calls Tryz.prog 31 #[.slice (some ⟨g, 0, none⟩) xs.length cap, .slice a2 ys.length cap2] w fun e w' => e = .returned (.bool (decide (xs = ys))) ∧ Below w.heap.size w w' := by
  cases hne : ((xs.length : Int) != (ys.length : Int))
  · have hle : xs.length = ys.length := by simp at hne; omega
    have HL := hide hle
    have HY := hide hy
    clear hy hle
    go_enter Tryz.func31, Tryz.ntmps31
    go_wp2
    go_loopw [5, 13] (fun _ c wr => ∃ k : Nat, k ≤ xs.length ∧ c = .int .i64 k ∧ xs.take k = ys.take k ∧ Below w.heap.size w wr) (fun _ c _ => xs.length - (intOf c).toNat)
    case atStart => exact ⟨0, Nat.zero_le _, rfl, rfl, Below.refl _ _⟩
    case round =>
      obtain ⟨k, hk, rfl, ht, hb⟩ := hrel
      have HT := hide ht
      clear ht
      by_cases hlt : k < xs.length
      · have hlt2 : k < ys.length := by have := unhide HL; omega
        obtain ⟨g2, off, rfl, hg2, hyr⟩ : ∃ g2 off, a2 = some ⟨g2, off, none⟩ ∧ g2 < w.heap.size ∧ IntsAt w g2 off ys := by
          rcases unhide HY with h | h
          · subst h; simp at hlt2
          · exact h
        have x0 := (hx.of hg hb).at k hlt
        have y0 := (hyr.of hg2 hb).at k hlt2
        simp only [Nat.zero_add] at x0
        have j1 : (k : Int) < (xs.length : Int) := by omega
        have j2 : (k : Int) < (ys.length : Int) := by omega
        have q1 : g < wr.heap.size := Nat.lt_of_lt_of_le hg hb.size
        have q2 : g2 < wr.heap.size := Nat.lt_of_lt_of_le hg2 hb.size
        have hnext : xs[k] = ys[k] → xs.take (k + 1) = ys.take (k + 1) := fun h => by rw [take_snocN xs k hlt, take_snocN ys k hlt2, unhide HT, h]
        have hbad : xs[k] ≠ ys[k] → decide (xs = ys) = false := fun h => decide_eq_false (take_ne hlt hlt2 h)
        generalize xs[k] = x at *
        generalize ys[k] = y at *
        by_cases he : x = y
        · have he' : (x != y) = false := by simp [he]
          have HN := hide (hnext he)
          clear hnext hbad he HT
          go_upto_region 6 with fail
          go_quiet (fail)
          go_wp2
          go_roundw
          case rel => exact ⟨k + 1, by omega, by go_num, unhide HN, Go.below_drewN hb _⟩
          case measure => simp [intOf]; omega
        · have he' : (x != y) = true := by simp [he]
          have HB := hide (hbad he)
          clear hnext hbad he HT
          go_upto_region 6 with fail
          go_quiet (fail)
          go_wp2
          go_ret
          exact ⟨congrArg (fun z => Ending.returned (.bool z)) (unhide HB).symm, Go.below_drewN hb _⟩
      · obtain rfl : k = xs.length := by omega
        have HE : Hid (decide (xs = ys) = true) := decide_eq_true (eq_of_takes (unhide HL) (unhide HT))
        clear HT
        go_wp2
        go_ret
        exact ⟨congrArg (fun z => Ending.returned (.bool z)) HE.out.symm, hb⟩
  · have HE : Hid (decide (xs = ys) = false) := decide_eq_false (fun e => by subst e; simp at hne)
    clear hy
    go_enter Tryz.func31, Tryz.ntmps31
    go_wp2
    go_ret
    exact ⟨congrArg (fun z => Ending.returned (.bool z)) HE.out.symm, Below.refl _ _⟩
end Go.Proofs.YtmcbmmpjhijagaaGreatDoor
namespace Go.Proofs.YtmcbmmpjhijagaaGreatDoor
open Go Go.RowKit
theorem sliceI_low (ao : Option Addr) (n lc r : Nat) (hr : r ≤ n) (w : World) : (Instr.slice 47 (.slice ao n lc) (some (.int .i64 (r : Int))) none none).run Tryz.prog w = .ok (.slice (if lc = r then ao else ao.map (·.add r)) (n - r) (lc - r)) w := by
  have ht : Tryz.prog.underlying 47 = some (.slice (Tryz.prog.elem 47)) := by kernel_rfl
  have hs : ∀ w, (sizeOf (Tryz.prog.elem 47)).run Tryz.prog w = .ok 1 w := fun _ => by kernel_rfl
  rw [run_slice_l _ _ _ _ _ ht .i64 r (by omega) (by omega), hs]
  simp [Result.andThen, sliced]
theorem sliceI_high (ao : Option Addr) (n lc r : Nat) (hr : r ≤ lc) (w : World) : (Instr.slice 47 (.slice ao n lc) none (some (.int .i64 (r : Int))) none).run Tryz.prog w = .ok (.slice ao r lc) w := by
  have ht : Tryz.prog.underlying 47 = some (.slice (Tryz.prog.elem 47)) := by kernel_rfl
  have hs : ∀ w, (sizeOf (Tryz.prog.elem 47)).run Tryz.prog w = .ok 1 w := fun _ => by kernel_rfl
  rw [run_slice_h _ _ _ _ _ ht .i64 r (by omega) (by omega), hs]
  cases ao with
  | none => simp [Result.andThen, sliced]
  | some a => simp [Result.andThen, sliced, Addr.add]
theorem own_cut {w : World} {s lc r : Nat} {ao : Option Addr} {L : List Int} (h : w.ownsRow s 3 1 (.slice ao L.length lc) L.length (vInts L)) (hr : r ≤ L.length) : w.ownsRow s 3 1 (.slice ao r lc) r (vInts (L.take r)) := by
  refine ⟨by simp [vInts]; omega, ?_⟩
  rcases h.2 with ⟨h1, h0⟩ | ⟨g', cap', cur, h1, h2, h3, h4, h5, h6, h7⟩
  · simp only [Value.slice.injEq] at h1
    obtain ⟨rfl, _, rfl⟩ := h1
    obtain rfl : r = 0 := by omega
    exact Or.inl ⟨rfl, rfl⟩
  · simp only [Value.slice.injEq, true_and] at h1
    obtain ⟨rfl, rfl⟩ := h1
    refine Or.inr ⟨g', lc, cur, rfl, h2, h3, by omega, h5, h6, ?_⟩
    rw [vInts_take, ← h7, List.take_take, Nat.min_eq_left (by omega), Nat.mul_one]
theorem own_cap {w : World} {s lc : Nat} {ao : Option Addr} {L : List Int} (h : w.ownsRow s 3 1 (.slice ao L.length lc) L.length (vInts L)) : L.length ≤ lc := by
  rcases h.2 with ⟨h1, h0⟩ | ⟨g', cap', cur, h1, h2, h3, h4, h5, h6, h7⟩
  · omega
  · simp only [Value.slice.injEq, true_and] at h1
    obtain ⟨rfl, rfl⟩ := h1
    exact h4
theorem own_drop {w : World} {s lc r : Nat} {ao : Option Addr} {L : List Int} (h : w.ownsRow s 3 1 (.slice ao L.length lc) L.length (vInts L)) (_ : r ≤ L.length) :
    L.drop r = [] ∨ ∃ g2 off, (if lc = r then ao else ao.map (·.add r)) = some ⟨g2, off, none⟩ ∧ g2 < w.heap.size ∧ IntsAt w g2 off (L.drop r) := by
  by_cases hl : L.length ≤ r
  · exact Or.inl (List.drop_eq_nil_of_le hl)
  · right
    rcases h.2 with ⟨h1, h0⟩ | ⟨g', cap', cur, h1, h2, h3, h4, h5, h6, h7⟩
    · omega
    · have h' := h
      simp only [Value.slice.injEq, true_and] at h1
      obtain ⟨rfl, rfl⟩ := h1
      refine ⟨g', r, ?_, (Array.getElem?_eq_some_iff.1 h3).1, ?_⟩
      · rw [if_neg (by omega)]; simp [Addr.add]; omega
      · have hrow := OwnI.row (w := w) (B := s) (g := g') (cap := lc) (xs := L) h'
        intro i x hx
        rw [List.getElem?_drop] at hx
        have := hrow (r + i) x hx
        simpa using this
end Go.Proofs.YtmcbmmpjhijagaaGreatDoor
namespace Go.Proofs.YtmcbmmpjhijagaaGreatDoor
open Go Go.RowKit
set_option maxHeartbeats 1000000 in
theorem isName_calls (s : ByteArray) (w : World) (hs : s.size ≤ 1048576) (hT : TKw w) : Calls Tryz.prog 72 #[.string s] w fun e w' => e = .returned (.bool (dB (NameB s))) ∧ w' = w := by
  have LC := fun w => isLetter_calls (byt s 0) w
  have SC := fun w => spanLen_calls s w hs
  have KC := isKeyword_calls s w hT
  have HN : Hid (NameB s ↔ (s.toList ≠ [] ∧ s.size ≤ 64 ∧ letter (byt s 0) = true ∧ spn s = s.size ∧ decide (s.toList ∈ kws) = false)) := by
    show _ ↔ _
    rw [name_iff, decide_eq_false_iff_not]
  clear hT
  generalize decide (s.toList ∈ kws) = k at *
  cases he : (s.toList == ([] : List UInt8))
  · have hne : s.toList ≠ [] := beq_eq_false_iff_ne.1 he
    have hpos : 0 < s.size := by rw [← size_toList]; exact List.length_pos_iff.2 hne
    have HNe := hide hne
    clear hne
    by_cases h64 : (s.size : Int) ≤ 64
    · have eb := byt_eq s 0 hpos
      have j0 : (0 : Int) < (s.size : Int) := by omega
      have hsp := spn_le s
      generalize byt s 0 = c at *
      generalize letter c = l at *
      generalize spn s = m at *
      cases l
      · have HE : Hid (dB (NameB s) = false) := dB_false (fun h => by have := (HN.out.1 h).2.2.1; cases this)
        have HL := hide LC; have HS := hide SC; have HKC := hide KC
        clear LC SC KC HN
        go_enter Tryz.func72, Tryz.ntmps72
        go_wp2_with fail
        refine (unhide HL _).mono ?_; rintro e w1 ⟨rfl, rfl⟩
        go_wp2
        go_ret
        exact ⟨congrArg (fun z => Ending.returned (.bool z)) HE.out.symm, rfl⟩
      · by_cases hm : m = s.size
        · have hm' : ((m : Int) == (s.size : Int)) = true := by simp [hm]
          have HM := hide hm
          clear hm
          cases k
          · have HE : Hid (dB (NameB s) = true) := dB_true (HN.out.2 ⟨unhide HNe, by omega, rfl, unhide HM, rfl⟩)
            clear HM
            have HL := hide LC; have HS := hide SC; have HKC := hide KC
            clear LC SC KC HN
            go_enter Tryz.func72, Tryz.ntmps72
            go_wp2_with fail
            refine (unhide HL _).mono ?_; rintro e w1 ⟨rfl, rfl⟩
            go_wp2_with fail
            refine (unhide HS _).mono ?_; rintro e w1 ⟨rfl, rfl⟩
            go_wp2_with fail
            refine (unhide HKC).mono ?_; rintro e w1 ⟨rfl, rfl⟩
            go_wp2
            go_ret
            exact ⟨congrArg (fun z => Ending.returned (.bool z)) HE.out.symm, rfl⟩
          · have HE : Hid (dB (NameB s) = false) := dB_false (fun h => by have := (HN.out.1 h).2.2.2.2; cases this)
            clear HM
            have HL := hide LC; have HS := hide SC; have HKC := hide KC
            clear LC SC KC HN
            go_enter Tryz.func72, Tryz.ntmps72
            go_wp2_with fail
            refine (unhide HL _).mono ?_; rintro e w1 ⟨rfl, rfl⟩
            go_wp2_with fail
            refine (unhide HS _).mono ?_; rintro e w1 ⟨rfl, rfl⟩
            go_wp2_with fail
            refine (unhide HKC).mono ?_; rintro e w1 ⟨rfl, rfl⟩
            go_wp2
            go_ret
            exact ⟨congrArg (fun z => Ending.returned (.bool z)) HE.out.symm, rfl⟩
        · have hm' : ((m : Int) == (s.size : Int)) = false := by simp; omega
          have HE : Hid (dB (NameB s) = false) := dB_false (fun h => hm (HN.out.1 h).2.2.2.1)
          clear hm
          have HL := hide LC; have HS := hide SC; have HKC := hide KC
          clear LC SC KC HN
          go_enter Tryz.func72, Tryz.ntmps72
          go_wp2_with fail
          refine (unhide HL _).mono ?_; rintro e w1 ⟨rfl, rfl⟩
          go_wp2_with fail
          refine (unhide HS _).mono ?_; rintro e w1 ⟨rfl, rfl⟩
          go_wp2
          go_ret
          exact ⟨congrArg (fun z => Ending.returned (.bool z)) HE.out.symm, rfl⟩
    · have HE : Hid (dB (NameB s) = false) := dB_false (fun h => by have := (HN.out.1 h).2.1; omega)
      have HL := hide LC; have HS := hide SC; have HKC := hide KC
      clear LC SC KC HN
      go_enter Tryz.func72, Tryz.ntmps72
      go_wp2
      go_ret
      exact ⟨congrArg (fun z => Ending.returned (.bool z)) HE.out.symm, rfl⟩
  · have HE : Hid (dB (NameB s) = false) := dB_false (fun h => (HN.out.1 h).1 (by simpa using he))
    have HL := hide LC; have HS := hide SC; have HKC := hide KC
    clear LC SC KC HN
    go_enter Tryz.func72, Tryz.ntmps72
    go_wp2
    go_ret
    exact ⟨congrArg (fun z => Ending.returned (.bool z)) HE.out.symm, rfl⟩
theorem nameFits_calls (s : ByteArray) (u : Bool) (w : World) (hs : s.size ≤ 1048576) (hT : TKw w) : Calls Tryz.prog 57 #[.string s, .bool u] w fun e w' => e = .returned (.bool (dB (NameFits s u))) ∧ w' = w := by
  cases u
  · have HE : Hid (dB (NameFits s false) = s.toList.isEmpty) := by
      show _ = _
      rw [Bool.eq_iff_iff, dB_iff]
      simp [NameFits]
    clear hT
    go_enter Tryz.func57, Tryz.ntmps57
    go_wp2
    go_ret
    exact ⟨congrArg (fun z => Ending.returned (.bool z)) HE.out.symm, rfl⟩
  · have HE : Hid (dB (NameFits s true) = dB (NameB s)) := by show _ = _; exact dB_congr (by simp [NameFits])
    have H := hide (isName_calls s w hs hT)
    clear hT
    go_enter Tryz.func57, Tryz.ntmps57
    go_wp2_with fail
    refine (unhide H).mono ?_; rintro e w1 ⟨rfl, rfl⟩
    go_wp2
    go_ret
    exact ⟨congrArg (fun z => Ending.returned (.bool z)) HE.out.symm, rfl⟩
end Go.Proofs.YtmcbmmpjhijagaaGreatDoor
