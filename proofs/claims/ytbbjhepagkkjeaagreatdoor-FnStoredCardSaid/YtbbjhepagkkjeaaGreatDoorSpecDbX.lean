import Derived.Test.YtbbjhepagkkjeaaGreatDoorQ27
import Derived.Test.YtbbjhepagkkjeaaGreatDoorQ23
import Derived.Deep.RegionHeld3
namespace Go.Proofs.YtbbjhepagkkjeaaGreatDoor
open Go Go.RowKit
set_option maxHeartbeats 1000000 in
theorem l3Table_X (ts : List Tb) (s : ByteArray) (a : Option Addr) (cap : Nat) (w : World) (hn : TabsX w a ts) (hb1 : ts.length ≤ 1048576) :
    Calls Tryz.prog 45 #[.agg #[.slice a ts.length cap], .string s] w fun e w' => e = .returned (.int .i64 (fidx ts s.toList)) ∧ Below w.heap.size w w' := by
  have HN := hide hn
  clear hn
  go_enter Tryz.func45, Tryz.ntmps45
  go_wp2
  go_loopw [5] (fun c wr => ∃ k : Nat, k ≤ ts.length ∧ c = .int .i64 k ∧ (∀ (j : Nat) (hj : j < ts.length), j < k → (ts[j]).Name.toList ≠ s.toList) ∧ wr.cell? ⟨w.heap.size, 0, none⟩ = some (.slice a ts.length cap) ∧ w.heap.size < wr.heap.size ∧ Below w.heap.size w wr) (fun c _ => ts.length - (intOf c).toNat)
  case atStart => exact ⟨0, Nat.zero_le _, rfl, fun j hj h => by omega, by simp [go_sem], by simp, bA (Below.refl _ _) _⟩
  case round =>
    obtain ⟨k, hk, rfl, hw, ba, sa, hb⟩ := hrel
    have HW := hide hw
    clear hw
    by_cases hlt : k < ts.length
    · obtain ⟨g, ua, uc, rfl, q1, c0, _, _, _⟩ := ((unhide HN).of hb) k hlt
      have j1 : (k : Int) < (ts.length : Int) := by omega
      have hhit : (ts[k]).Name.toList = s.toList → fidx ts s.toList = (k : Int) := fun h => fidx_at hlt (unhide HW) h
      have hmiss : (ts[k]).Name.toList ≠ s.toList → ∀ (j : Nat) (hj : j < ts.length), j < k + 1 → (ts[j]).Name.toList ≠ s.toList := fun h j hj hjk => by
        by_cases e : j = k
        · subst e; exact h
        · exact unhide HW j hj (by omega)
      have Hh := hide hhit; have Hm := hide hmiss
      clear hhit hmiss
      generalize (ts[k]).Name = nm at *
      cases he : (nm.toList == s.toList)
      · have HNx := hide (unhide Hm (beq_eq_false_iff_ne.1 he))
        clear Hh Hm
        go_wp2
        go_roundw
        case rel => exact ⟨k + 1, by omega, by go_num, unhide HNx, ba, sa, hb⟩
        case measure => simp [intOf]; omega
      · have HE := hide (unhide Hh (beq_iff_eq.1 he))
        clear Hh Hm
        go_wp2
        go_ret
        exact ⟨congrArg (fun z => Ending.returned (.int .i64 z)) (unhide HE).symm, hb⟩
    · obtain rfl : k = ts.length := by omega
      have HE := hide (fidx_none (fun j hj => unhide HW j hj hj))
      clear HW
      go_wp2
      go_ret
      exact ⟨congrArg (fun z => Ending.returned (.int .i64 z)) (unhide HE).symm, hb⟩
set_option maxHeartbeats 4000000 in
theorem sDbOk_X (ts : List Tb) (a : Option Addr) (cap : Nat) (w : World) (hn : TabsX w a ts) (hb0 : ts.length ≤ 1048576) (hsm : SmallT ts) :
    Calls Tryz.prog 18 #[.agg #[.slice a ts.length cap]] w fun e w' => e = .returned (.bool (dB (DbV ts))) ∧ Below w.heap.size w w' := by
  by_cases h2 : (50 : Int) < (ts.length : Int)
  · have HE : Hid (dB (DbV ts) = false) := dB_false (fun h => by have := h.few; omega)
    clear hn hsm
    go_enter Tryz.func18, Tryz.ntmps18
    go_wp2
    go_ret
    exact ⟨congrArg (fun z => Ending.returned (.bool z)) HE.out.symm, bA (Below.refl _ _) _⟩
  have hbul : bulkT ts ≤ 1048576 := hsm
  have HN := hide hn
  clear hn hsm
  go_enter Tryz.func18, Tryz.ntmps18
  go_wp2
  go_loopw [3, 4, 5, 6] (fun r c _ _ wr => ∃ (k : Nat) (rw' : Int), k ≤ ts.length ∧ c = .int .i64 k ∧ r = .int .i64 rw' ∧ rw' = (sumR (ts.take k) : Int) ∧ (∀ (i : Nat) (hi : i < ts.length), i < k → TbV ts i ts[i]) ∧ wr.cell? ⟨w.heap.size, 0, none⟩ = some (.slice a ts.length cap) ∧ w.heap.size < wr.heap.size ∧ Below w.heap.size w wr) (fun _ c _ _ _ => ts.length - (intOf c).toNat)
  case atStart => exact ⟨0, 0, Nat.zero_le _, rfl, rfl, by simp [sumR], fun i hi h => by omega, by simp [go_sem], by simp, bA (Below.refl _ _) _⟩
  case round =>
    obtain ⟨k, rv', hk, rfl, rfl, hrv, hw, ba, sa, hb⟩ := hrel
    have HW := hide hw; have HRv := hide hrv
    have hrvb : 0 ≤ rv' ∧ rv' ≤ 1048576 := by have := sumR_take_le ts k; omega
    obtain ⟨hrv0, hrv1⟩ := hrvb
    clear hw hrv
    by_cases hlt : k < ts.length
    · obtain ⟨g, ua, uc, ha, q1, c0, c1, c2, hMR⟩ := ((unhide HN).of hb) k hlt
      subst ha
      have hLT := fun W (hbW : Below w.heap.size w W) => l3Table_X ts (ts[k]).Name (some ⟨g, 0, none⟩) cap W ((unhide HN).of hbW) hb0
      have hbad : ¬ TbV ts k ts[k] → dB (DbV ts) = false := fun h => dB_false (fun hh => h (hh.each k hlt))
      have hgood : TbV ts k ts[k] → ∀ (i : Nat) (hi : i < ts.length), i < k + 1 → TbV ts i ts[i] := fun h i hi hik => by
        by_cases e : i = k
        · subst e; exact h
        · exact unhide HW i hi (by omega)
      have hsum := sumR_take ts k hlt
      have hmem := bulkT_mem (List.getElem_mem hlt)
      have hfr := fidx_range ts (ts[k]).Name.toList
      cases e : ts[k] with | mk S C xss =>
      rw [e] at c0 c1 c2 hMR hLT hbad hgood hsum hmem hfr
      dsimp only at c0 c1 c2 hMR hLT hsum hmem hfr
      have hSs : S.size ≤ 1048576 := by omega
      have hxl : xss.length ≤ 1048576 := by omega
      have NC := fun w => sIsName_calls S w hSs
      have hNd : dB (NameB S) = true ↔ NameB S := dB_iff
      have hdef : TbV ts k ⟨S, C, xss⟩ ↔ (dB (NameB S) = true ∧ 1 ≤ C ∧ C ≤ 16 ∧ fidx ts S.toList = (k : Int) ∧ ∀ xs ∈ xss, (xs.length : Int) = C) := by rw [hNd]; exact Iff.rfl
      generalize dB (NameB S) = b1 at *
      generalize fidx ts S.toList = fx at *
      have HNC := hide NC; have HLT := hide hLT; have HBad := hide hbad; have HGood := hide hgood; have HDef := hide hdef; have HSum := hide hsum; have HMR := hide hMR
      have j1 : (k : Int) < (ts.length : Int) := by omega
      clear NC hLT hbad hgood hdef hsum hNd e hmem hMR
      cases b1
      · have HE := hide (unhide HBad (fun h => by have := ((unhide HDef).1 h).1; cases this))
        go_wp2_with fail
        refine (unhide HNC _).mono ?_; rintro e w1 ⟨rfl, rfl⟩
        go_wp2
        go_ret
        exact ⟨congrArg (fun z => Ending.returned (.bool z)) (unhide HE).symm, bA hb _⟩
      by_cases hC1 : C < 1
      · have HE := hide (unhide HBad (fun h => by have := ((unhide HDef).1 h).2.1; omega))
        go_wp2_with fail
        refine (unhide HNC _).mono ?_; rintro e w1 ⟨rfl, rfl⟩
        go_wp2
        go_ret
        exact ⟨congrArg (fun z => Ending.returned (.bool z)) (unhide HE).symm, bA hb _⟩
      by_cases hC2 : 16 < C
      · have HE := hide (unhide HBad (fun h => by have := ((unhide HDef).1 h).2.2.1; omega))
        go_wp2_with fail
        refine (unhide HNC _).mono ?_; rintro e w1 ⟨rfl, rfl⟩
        go_wp2
        go_ret
        exact ⟨congrArg (fun z => Ending.returned (.bool z)) (unhide HE).symm, bA hb _⟩
      have baA : (wr.alloc (.cells #[.string S, .int .i64 C, .slice ua xss.length uc] 32)).cell? ⟨w.heap.size, 0, none⟩ = some (.slice (some ⟨g, 0, none⟩) ts.length cap) := (((Below.refl wr.heap.size wr).alloc (Nat.le_refl _) _).cell (p := ⟨w.heap.size, 0, none⟩) sa).trans ba
      cases hfx : (fx != (k : Int))
      rotate_left
      · have HE := hide (unhide HBad (fun h => by have := ((unhide HDef).1 h).2.2.2.1; simp [this] at hfx))
        go_wp2_with fail
        refine (unhide HNC _).mono ?_; rintro e w1 ⟨rfl, rfl⟩
        go_wp2_with fail
        refine (unhide HLT _ (bA hb _)).mono ?_; rintro e w2 ⟨rfl, hb2⟩
        go_wp2
        go_ret
        exact ⟨congrArg (fun z => Ending.returned (.bool z)) (unhide HE).symm, bT (bA hb _) hb2⟩
      go_wp2_with fail
      refine (unhide HNC _).mono ?_; rintro e w1 ⟨rfl, rfl⟩
      go_wp2_with fail
      refine (unhide HLT _ (bA hb _)).mono ?_; rintro e w2 ⟨rfl, hb2⟩
      have hbA := bA (Below.refl wr.heap.size wr) (.cells #[.string S, .int .i64 C, .slice ua xss.length uc] 32)
      have n1 : w2.cell? ⟨wr.heap.size, 1, none⟩ = some (.int .i64 C) := (hb2.cell (p := ⟨wr.heap.size, 1, none⟩) (by simp)).trans (by simp [go_sem])
      have n2 : w2.cell? ⟨wr.heap.size, 2, none⟩ = some (.slice ua xss.length uc) := (hb2.cell (p := ⟨wr.heap.size, 2, none⟩) (by simp)).trans (by simp [go_sem])
      have ba2 : w2.cell? ⟨w.heap.size, 0, none⟩ = some (.slice (some ⟨g, 0, none⟩) ts.length cap) := (hb2.cell (p := ⟨w.heap.size, 0, none⟩) (by simp; omega)).trans baA
      have hMR2 := ((unhide HMR).of hbA).of hb2
      have d2 := bT (bA hb (.cells #[.string S, .int .i64 C, .slice ua xss.length uc] 32)) hb2
      have s2 : wr.heap.size < w2.heap.size := by have := hb2.size; simp at this; omega
      have hfk : fx = (k : Int) := by simpa using hfx
      have HFk := hide hfk; have HMR2 := hide hMR2
      clear hfk hMR2 HMR baA hbA hb2 HLT HNC hfr c0 c1 c2 ba
      generalize wr.heap.size = b5 at *
      go_wp2
      go_loopw [6] (fun c wi => ∃ j : Nat, j ≤ xss.length ∧ c = .int .i64 j ∧ (∀ xs ∈ xss.take j, (xs.length : Int) = C) ∧ Below w2.heap.size w2 wi) (fun c _ => xss.length - (intOf c).toNat)
      case atStart => exact ⟨0, Nat.zero_le _, rfl, fun x hx => by simp at hx, Below.refl _ _⟩
      case round =>
        obtain ⟨j, hj, rfl, hjw, hbi⟩ := hrel
        have HJ := hide hjw
        clear hjw
        have m1 := (hbi.cell (p := ⟨b5, 1, none⟩) s2).trans n1
        have m2 := (hbi.cell (p := ⟨b5, 2, none⟩) s2).trans n2
        have sb : b5 < wr.heap.size := Nat.lt_of_lt_of_le s2 hbi.size
        by_cases hjl : j < xss.length
        · obtain ⟨G, ra, rc, rfl, hGs, r0⟩ := ((unhide HMR2).of hbi) j hjl
          have j2 : (j : Int) < (xss.length : Int) := by omega
          have hnext : ((xss[j]).length : Int) = C → ∀ xs ∈ xss.take (j + 1), (xs.length : Int) = C := fun h x hx => by
            rw [take_snoc xss j hjl] at hx
            rcases List.mem_append.1 hx with h' | h'
            · exact unhide HJ x h'
            · simp only [List.mem_singleton] at h'; rw [h']; exact h
          have hno : ((xss[j]).length : Int) ≠ C → dB (DbV ts) = false := fun h => unhide HBad (fun hh => h (((unhide HDef).1 hh).2.2.2.2 _ (List.getElem_mem hjl)))
          generalize (xss[j]).length = xl at *
          by_cases hx : (xl : Int) = C
          · have hx' : ((xl : Int) != C) = false := by simp [hx]
            have HNx := hide (hnext hx)
            clear hnext hno hx
            go_upto_region 13 with fail
            go_quiet (fail)
            go_wp2
            go_roundw
            case rel => exact ⟨j + 1, by omega, by go_num, unhide HNx, below_drewN hbi _⟩
            case measure => simp [intOf]; omega
          · have hx' : ((xl : Int) != C) = true := by simp [hx]
            have HE := hide (hno hx)
            clear hnext hno hx
            go_upto_region 13 with fail
            go_quiet (fail)
            go_wp2
            go_ret
            exact ⟨congrArg (fun z => Ending.returned (.bool z)) (unhide HE).symm, below_drewN (bT d2 hbi) _⟩
        · obtain rfl : j = xss.length := by omega
          have hall := unhide HJ
          rw [List.take_length] at hall
          have HGd := hide (unhide HGood ((unhide HDef).2 ⟨by first | rfl | trivial, by omega, by omega, unhide HFk, hall⟩))
          have ba3 := (hbi.cell (p := ⟨w.heap.size, 0, none⟩) (by show w.heap.size < _; have := d2.size; omega)).trans ba2
          have s3 := hbi.size
          clear hall
          go_wp2
          go_roundw
          case rel => exact ⟨k + 1, rv' + (xss.length : Int), by omega, by go_num, by first | rfl | (congr 1; omega), by have h1 := unhide HSum; have h2 := unhide HRv; omega, unhide HGd, ba3, by omega, bT d2 hbi⟩
          case measure => simp [intOf]; omega
    · obtain rfl : k = ts.length := by omega
      have HE : Hid (dB (DbV ts) = decide (rv' ≤ 1000)) := by
        show _ = _
        rw [Bool.eq_iff_iff, dB_iff, decide_eq_true_eq]
        have := unhide HRv
        rw [List.take_length] at this
        exact ⟨fun h => by have := h.rows; omega, fun h => ⟨by omega, fun i hi => unhide HW i hi hi, by omega⟩⟩
      clear HW HRv
      go_wp2
      go_ret
      exact ⟨congrArg (fun z => Ending.returned (.bool z)) HE.out.symm, hb⟩
end Go.Proofs.YtbbjhepagkkjeaaGreatDoor
