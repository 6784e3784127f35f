import Derived.Test.YtnchcndcinpalaaGreatDoorPlanSmall
import Derived.Test.YtnchcndcinpalaaGreatDoorQ7
namespace Go.Proofs.YtnchcndcinpalaaGreatDoor
open Go Go.RowKit
structure IntRow (w : World) (g : Nat) (xs : List Int) : Prop where
  size : g < w.heap.size
  frz : ∀ o, w.frozen? ⟨g, o, none⟩ = false
  held : IntsAt w g 0 xs
theorem IntRow.of {w w1 : World} {g : Nat} {xs : List Int} (h : IntRow w g xs) (hb : Below w.heap.size w w1) : IntRow w1 g xs :=
  ⟨Nat.lt_of_lt_of_le h.size hb.size, fun o => (hb.frozen (p := ⟨g, o, none⟩) h.size).trans (h.frz o), h.held.of h.size hb⟩
theorem IntRow.at {w : World} {g : Nat} {xs : List Int} (h : IntRow w g xs) (i : Nat) (hi : i < xs.length) : w.cell? ⟨g, i, none⟩ = some (.int .i64 (xs.getD i 0)) := by
  have := h.held.at i hi
  rw [Nat.zero_add] at this
  rw [this, List.getD_eq_getElem?_getD, List.getElem?_eq_getElem hi]
  rfl
theorem IntRow.set {w : World} {g : Nat} {xs : List Int} (h : IntRow w g xs) (k : Nat) (hk : k < xs.length) (v : Int) : IntRow (w.setCell ⟨g, k, none⟩ (.int .i64 v)) g (xs.set k v) := by
  refine ⟨by simpa using h.size, fun o => by rw [frozen_setCellN]; exact h.frz o, fun i x hx => ?_⟩
  rw [Nat.zero_add]
  by_cases e : k = i
  · subst e
    rw [List.getElem?_set_self hk] at hx
    simp only [Option.some.injEq] at hx
    subst hx
    exact World.cell?_setCell_same _ _ _ (h.at k hk)
  · rw [List.getElem?_set_ne e] at hx
    rw [setCell_otherN e]
    have := h.held i x hx
    rwa [Nat.zero_add] at this
theorem IntRow.far {w : World} {g : Nat} {xs : List Int} (h : IntRow w g xs) {G O : Nat} (hne : G ≠ g) (v : Value) : IntRow (w.setCell ⟨G, O, none⟩ v) g xs :=
  ⟨by simpa using h.size, fun o => by rw [frozen_setCellN]; exact h.frz o, fun i x hx => by rw [setCell_farN hne]; exact h.held i x hx⟩
theorem getD_set {xs : List Int} {k : Nat} (hk : k < xs.length) (v : Int) (j : Nat) : (xs.set k v).getD j 0 = if j = k then v else xs.getD j 0 := by
  by_cases e : j = k
  · subst e
    rw [if_pos rfl, List.getD_eq_getElem?_getD, List.getElem?_set_self hk]
    rfl
  · rw [if_neg e, List.getD_eq_getElem?_getD, List.getElem?_set_ne (fun h => e h.symm), List.getD_eq_getElem?_getD]
theorem make_intsP (n : Nat) (hn : n ≤ 1048576) (w : World) :
    (Instr.makeSlice 61 (.int .i64 (n : Int)) (.int .i64 (n : Int))).run Tryz.prog w = .ok (.slice (some ⟨w.heap.size, 0, none⟩) n n) (w.alloc (.cells (madeCells #[.int .i64 0] n) 3)) := by
  obtain ⟨i, hi, hz⟩ := Option.map_eq_some_iff.1 (show (Tryz.prog.info? 3).map (fun i => (i.zero, i.size, i.bytes)) = some (some (.int .i64 0), 1, 8) by kernel_rfl)
  simp only [Prod.mk.injEq] at hz
  have := run_make (P := Tryz.prog) w 61 3 i _ Tryz.underlying61 hi hz.1 .i64 .i64 (n : Int) (n : Int) (by omega) (by omega) (by rw [hz.2.2]; omega) (by omega)
  rw [hz.2.1] at this
  simpa [Value.cells] using this
theorem IntRow.made (w : World) (n : Nat) : IntRow (w.alloc (.cells (madeCells #[.int .i64 0] n) 3)) w.heap.size (List.replicate n 0) := by
  refine ⟨by simp, fun o => by simp [go_sem], fun i x hx => ?_⟩
  obtain ⟨h1, h2⟩ := List.getElem?_eq_some_iff.1 hx
  simp only [List.length_replicate] at h1
  simp only [List.getElem_replicate] at h2
  subst h2
  rw [Nat.zero_add, World.cell?_alloc_at _ _ _ i rfl, Array.getElem?_eq_getElem (by simp [size_madeCells]; omega)]
  simp [madeCells, go_sem, Nat.mod_one]
theorem frm_one_at {ps : List Pn} {k : Nat} (hk : k < ps.length) (ha : arity (ps[k]).K = 1) (hR : (ps[k]).R = 0) : frm (nds ps) k = if 0 ≤ (ps[k]).L ∧ (ps[k]).L = (k : Int) - 1 then frm (nds ps) (ps[k]).L.toNat else -1 := by
  have hkd := kidsAt_nds hk
  unfold kidsP at hkd
  rw [if_neg (by omega), if_pos ha, if_pos hR] at hkd
  cases k with
  | zero => rw [frm_one0 hkd, if_neg (by omega)]
  | succ j =>
    rw [frm_one hkd]
    by_cases h : (ps[j + 1]).L = (j : Int)
    · rw [if_pos h, if_pos (by omega), h]
      congr 1
    · rw [if_neg h, if_neg (by omega)]
theorem frm_two_at {ps : List Pn} {k : Nat} (hk : k < ps.length) (ha : arity (ps[k]).K = 2) (hne : ∀ j, j < k → frm (nds ps) j ≠ -1) :
    frm (nds ps) k = if 0 ≤ (ps[k]).R ∧ (ps[k]).R = (k : Int) - 1 ∧ 0 ≤ (ps[k]).L ∧ (ps[k]).L = frm (nds ps) (ps[k]).R.toNat - 1 then frm (nds ps) (ps[k]).L.toNat else -1 := by
  have hkd := kidsAt_nds hk
  unfold kidsP at hkd
  rw [if_neg (by omega), if_neg (by omega), if_pos ha] at hkd
  cases k with
  | zero => rw [frm_two0 hkd, if_neg (by omega)]
  | succ j =>
    rw [frm_two hkd]
    by_cases h : (ps[j + 1]).R = (j : Int)
    · rw [if_neg (by omega), h, show ((j : Int)).toNat = j by omega]
      have := hne j (by omega)
      have hfl := (frm_le (nds ps) j).1
      by_cases h2 : frm (nds ps) j < 1
      · rw [if_pos h2, if_neg (by omega)]
      · rw [if_neg h2]
        by_cases h3 : (ps[j + 1]).L = frm (nds ps) j - 1
        · rw [if_neg (by omega), if_pos (by omega), h3]
        · rw [if_pos h3, if_neg (by omega)]
    · rw [if_pos h, if_neg (by omega)]
theorem frm_zero_at {ps : List Pn} {k : Nat} (hk : k < ps.length) (ha : arity (ps[k]).K = 0) (hL : (ps[k]).L = 0) (hR : (ps[k]).R = 0) : frm (nds ps) k = (k : Int) := by
  have hkd := kidsAt_nds hk
  unfold kidsP at hkd
  rw [if_pos ha, if_pos ⟨hL, hR⟩] at hkd
  exact frm_leaf hkd
set_option maxRecDepth 100000 in
set_option maxHeartbeats 8000000 in
theorem orderOk_calls (ps : List Pn) (nt g cap : Nat) (w : World) (hg : g < w.heap.size) (hn : PnsAt w g 0 ps) (h0 : 1 ≤ ps.length) (hb0 : ps.length ≤ 1048576) (hF : ∀ (i : Nat) (hi : i < ps.length), FldV nt ps[i]) (hT : TPlan w) :
    Calls Tryz.prog 84 #[.slice (some ⟨g, 0, none⟩) ps.length cap] w fun e w' => e = .returned (.bool (dB (frm (nds ps) (ps.length - 1) = 0))) ∧ Below w.heap.size w w' := by
  have hmk := make_intsP ps.length hb0
  have hM : Hid (IntRow (w.alloc (.cells (madeCells #[.int .i64 0] ps.length) 3)) w.heap.size (List.replicate ps.length 0)) := IntRow.made w ps.length
  have HN := hide hn; have HF := hide hF; have HT := hide hT
  clear hn hF hT
  go_enter Tryz.func84, Tryz.ntmps84
  go_wp2
  go_loopw [14] (fun c wr => ∃ (k : Nat) (xs : List Int), k ≤ ps.length ∧ c = .int .i64 k ∧ xs.length = ps.length ∧ (∀ j, j < k → xs.getD j 0 = frm (nds ps) j ∧ frm (nds ps) j ≠ -1) ∧ IntRow wr w.heap.size xs ∧ Below w.heap.size w wr) (fun c _ => ps.length - (intOf c).toNat)
  case atStart => exact ⟨0, _, Nat.zero_le _, rfl, by simp, fun j hj => by omega, hM.out, bA (Below.refl _ _) _⟩
  case round =>
    clear hM hmk
    obtain ⟨k, xs, hk, rfl, hxl, hx, hrow, hb⟩ := hrel
    have HX := hide hx; have HXl := hide hxl
    clear hx hxl
    by_cases hlt : k < ps.length
    · obtain ⟨c0, c1, c2, c5, c6, ⟨b3, c3, _⟩, b4, c4, _⟩ := ((unhide HN).of hg hb).at k hlt
      simp only [Nat.zero_add] at c0 c1 c2 c3 c4 c5 c6
      have hFk := unhide HF k hlt
      have hbad : frm (nds ps) k = -1 → dB (frm (nds ps) (ps.length - 1) = 0) = false := fun h => dB_false (fun hh => frm_all hh k (by omega) h)
      have hnext : ∀ v, frm (nds ps) k = v → v ≠ -1 → ∀ j, j < k + 1 → (xs.set k v).getD j 0 = frm (nds ps) j ∧ frm (nds ps) j ≠ -1 := fun v hv hv' j hj => by
        have := unhide HXl
        rw [getD_set (by omega)]
        by_cases e : j = k
        · subst e; rw [if_pos rfl]; exact ⟨hv.symm, by rw [hv]; exact hv'⟩
        · rw [if_neg e]; exact unhide HX j (by omega)
      have f0 := frm_zero_at hlt
      have f1 := frm_one_at hlt
      have f2 := fun ha => frm_two_at hlt ha (fun j hj => (unhide HX j hj).2)
      have hxk := fun (j : Nat) (hj : j < k) => unhide HX j hj
      have hfl := fun (j : Nat) => frm_le (nds ps) j
      have hxl := unhide HXl
      have j1 : (k : Int) < (ps.length : Int) := by omega
      have q1 : g < wr.heap.size := Nat.lt_of_lt_of_le hg hb.size
      have q2 : w.heap.size < wr.heap.size := hrow.size
      cases e : ps[k] with | mk K T M Ex Exs L R =>
      rw [e] at c0 c1 c2 c3 c4 c5 c6 hFk f0 f1 f2
      simp only at c0 c1 c2 c3 c4 c5 c6 hFk f0 f1 f2
      have k1 : 1 ≤ K := hFk.1
      have k2 : K ≤ 10 := hFk.2.1
      have fL : arity K = 0 → L = 0 := hFk.2.2.2.1
      have fR : arity K ≠ 2 → R = 0 := hFk.2.2.2.2
      have har := arity_of k1 k2
      have HB0 := hide (bA (Below.refl wr.heap.size wr) (.cells #[.int .i64 K, .int .i64 T, .int .i64 M, .slice (some ⟨b3, 0, none⟩) Ex.length Ex.length, .slice (some ⟨b4, 0, none⟩) Exs.length Exs.length, .int .i64 L, .int .i64 R] 130))
      have HTb := hide ((unhide HT).of hb)
      have HRow := hide hrow; have HNext := hide hnext; have HBad := hide hbad; have HXk := hide hxk; have HFl := hide hfl
      clear hrow hnext hbad hxk hfl hFk e HN HF HT
      rcases har with ha | ha | ha
      · have HK := hide (fun W (hbW : Below wr.heap.size wr W) => planKids_none K T M L R (.slice (some ⟨b3, 0, none⟩) Ex.length Ex.length) (.slice (some ⟨b4, 0, none⟩) Exs.length Exs.length) W k1 k2 ha ((unhide HTb).of hbW))
        have hv := f0 ha (fL ha) (fR (by omega))
        have HNx := hide (unhide HNext _ hv (by omega))
        clear f0 f1 f2 fL fR ha hv HNext HBad HXk HFl HX
        go_wp2_with fail
        refine (unhide HK _ (unhide HB0)).mono ?_; rintro e w1 ⟨rfl, hb1⟩
        have d1 := bT (unhide HB0) hb1
        have row1 := (unhide HRow).of d1
        have r1 := row1.at k (by omega)
        have r2 := row1.frz
        have r3 := row1.size
        have HSet := hide (row1.set k (by omega) (k : Int))
        have HB := hide (bT hb d1)
        clear hb1 d1 row1 HRow HB0 HK HTb c0 c1 c2 c3 c4 c5 c6
        go_wp2
        refine wp_loop_rounds 1 ?_
        rw [rounds_succ]
        go_wp2
        go_roundw
        case rel => exact ⟨k + 1, xs.set k (k : Int), by omega, by go_num, by simp [hxl], unhide HNx, unhide HSet, (unhide HB).setCell (p := ⟨w.heap.size, k, none⟩) (Nat.le_refl _) _⟩
        case measure => simp [intOf]; omega
      · have HK := hide (fun W (hbW : Below wr.heap.size wr W) => planKids_one K T M L R (.slice (some ⟨b3, 0, none⟩) Ex.length Ex.length) (.slice (some ⟨b4, 0, none⟩) Exs.length Exs.length) W k1 k2 ha ((unhide HTb).of hbW))
        have hv := f1 ha (fR (by omega))
        clear f0 f1 f2 fL fR ha HX
        by_cases hL0 : L < 0
        · rw [if_neg (by omega)] at hv
          have HE := hide (unhide HBad hv)
          clear hv HNext HBad HXk HFl HRow
          go_wp2_with fail
          refine (unhide HK _ (unhide HB0)).mono ?_; rintro e w1 ⟨b, rfl, hbs, hbl, cb0, hb1⟩
          have HB := hide (bT hb (bT (unhide HB0) hb1))
          clear hb1 HB0 HK HTb c0 c1 c2 c3 c4 c5 c6
          go_wp2
          refine wp_loop_rounds 2 ?_
          rw [rounds_succ]
          go_wp2
          go_ret
          exact ⟨congrArg (fun z => Ending.returned (.bool z)) (unhide HE).symm, unhide HB⟩
        by_cases hL1 : L = (k : Int) - 1
        rotate_left
        · rw [if_neg (by omega)] at hv
          have HE := hide (unhide HBad hv)
          have hL2 : (L != (k : Int) - 1) = true := by simpa using hL1
          clear hv HNext HBad HXk HFl HRow hL1
          go_wp2_with fail
          refine (unhide HK _ (unhide HB0)).mono ?_; rintro e w1 ⟨b, rfl, hbs, hbl, cb0, hb1⟩
          have HB := hide (bT hb (bT (unhide HB0) hb1))
          clear hb1 HB0 HK HTb c0 c1 c2 c3 c4 c5 c6
          go_wp2
          refine wp_loop_rounds 2 ?_
          rw [rounds_succ]
          go_wp2
          go_ret
          exact ⟨congrArg (fun z => Ending.returned (.bool z)) (unhide HE).symm, unhide HB⟩
        · rw [if_pos (by omega)] at hv
          obtain ⟨j, rfl⟩ : ∃ j : Nat, L = (j : Int) := ⟨L.toNat, by omega⟩
          rw [show ((j : Int)).toNat = j by omega] at hv
          have hj : j < k := by omega
          have hxj := unhide HXk j hj
          rw [hv] at HNext
          have HNx := hide (unhide HNext _ rfl hxj.2)
          have hfj := hxj.1
          have hL2 : ((j : Int) != (k : Int) - 1) = false := by simp [hL1]
          have hjn : (j : Int) < (ps.length : Int) := by omega
          have hfr := (unhide HFl j)
          have HHv := hide hv
          clear hv HNext HBad HXk HFl hL1 hxj
          generalize frm (nds ps) j = z at *
          go_wp2_with fail
          refine (unhide HK _ (unhide HB0)).mono ?_; rintro e w1 ⟨b, rfl, hbs, hbl, cb0, hb1⟩
          have d1 := bT (unhide HB0) hb1
          have row1 := (unhide HRow).of d1
          have r1 := row1.at k (by omega)
          have rj := row1.at j (by omega)
          rw [hfj] at rj
          have r2 := row1.frz
          have r3 := row1.size
          have HSet := hide (row1.set k (by omega) z)
          have HB := hide (bT hb d1)
          clear hb1 d1 row1 HRow HB0 HK HTb c0 c1 c2 c3 c4 c5 c6 hfj
          go_wp2
          refine wp_loop_rounds 2 ?_
          rw [rounds_succ]
          go_wp2
          rw [rounds_succ]
          go_wp2
          go_roundw
          case rel => exact ⟨k + 1, xs.set k z, by omega, by go_num, by simp [hxl], unhide HNx, unhide HSet, (unhide HB).setCell (p := ⟨w.heap.size, k, none⟩) (Nat.le_refl _) _⟩
          case measure => simp [intOf]; omega
      · have HK := hide (fun W (hbW : Below wr.heap.size wr W) => planKids_two K T M L R (.slice (some ⟨b3, 0, none⟩) Ex.length Ex.length) (.slice (some ⟨b4, 0, none⟩) Exs.length Exs.length) W k1 k2 ha ((unhide HTb).of hbW))
        have hv := f2 ha
        clear f0 f1 f2 fL fR ha HX
        by_cases hR0 : R < 0
        · rw [if_neg (by omega)] at hv
          have HE := hide (unhide HBad hv)
          clear hv HNext HBad HXk HFl HRow
          go_wp2_with fail
          refine (unhide HK _ (unhide HB0)).mono ?_; rintro e w1 ⟨b, rfl, hbs, hbl, cb0, cb1, hb1⟩
          have HB := hide (bT hb (bT (unhide HB0) hb1))
          clear hb1 HB0 HK HTb c0 c1 c2 c3 c4 c5 c6
          go_wp2
          refine wp_loop_rounds 3 ?_
          rw [rounds_succ]
          go_wp2
          go_ret
          exact ⟨congrArg (fun z => Ending.returned (.bool z)) (unhide HE).symm, unhide HB⟩
        by_cases hR1 : R = (k : Int) - 1
        rotate_left
        · rw [if_neg (by omega)] at hv
          have hR2 : (R != (k : Int) - 1) = true := by simpa using hR1
          clear hR1
          have HE := hide (unhide HBad hv)
          clear hv HNext HBad HXk HFl HRow
          go_wp2_with fail
          refine (unhide HK _ (unhide HB0)).mono ?_; rintro e w1 ⟨b, rfl, hbs, hbl, cb0, cb1, hb1⟩
          have HB := hide (bT hb (bT (unhide HB0) hb1))
          clear hb1 HB0 HK HTb c0 c1 c2 c3 c4 c5 c6
          go_wp2
          refine wp_loop_rounds 3 ?_
          rw [rounds_succ]
          go_wp2
          go_ret
          exact ⟨congrArg (fun z => Ending.returned (.bool z)) (unhide HE).symm, unhide HB⟩
        obtain ⟨j, rfl⟩ : ∃ j : Nat, R = (j : Int) := ⟨R.toNat, by omega⟩
        rw [show ((j : Int)).toNat = j by omega] at hv
        have hj : j < k := by omega
        have hfj := (unhide HXk j hj).1
        have hfr := unhide HFl j
        have hR2 : ((j : Int) != (k : Int) - 1) = false := by simp [hR1]
        have hjn : (j : Int) < (ps.length : Int) := by omega
        have HR1 := hide hR1
        clear hR1
        by_cases hL0 : L < 0
        · rw [if_neg (by omega)] at hv
          have HE := hide (unhide HBad hv)
          clear hv HNext HBad HXk HFl
          generalize frm (nds ps) j = z at *
          go_wp2_with fail
          refine (unhide HK _ (unhide HB0)).mono ?_; rintro e w1 ⟨b, rfl, hbs, hbl, cb0, cb1, hb1⟩
          have d1 := bT (unhide HB0) hb1
          have row1 := (unhide HRow).of d1
          have rj := row1.at j (by omega)
          rw [hfj] at rj
          have r3 := row1.size
          have HB := hide (bT hb d1)
          clear hb1 d1 row1 HRow HB0 HK HTb c0 c1 c2 c3 c4 c5 c6 hfj
          go_wp2
          refine wp_loop_rounds 3 ?_
          rw [rounds_succ]
          go_wp2
          rw [rounds_succ]
          go_wp2
          go_ret
          exact ⟨congrArg (fun z => Ending.returned (.bool z)) (unhide HE).symm, unhide HB⟩
        by_cases hL1 : L = frm (nds ps) j - 1
        rotate_left
        · rw [if_neg (by omega)] at hv
          have hL2 : (L != frm (nds ps) j - 1) = true := by simpa using hL1
          clear hL1
          have HE := hide (unhide HBad hv)
          clear hv HNext HBad HXk HFl
          generalize frm (nds ps) j = z at *
          go_wp2_with fail
          refine (unhide HK _ (unhide HB0)).mono ?_; rintro e w1 ⟨b, rfl, hbs, hbl, cb0, cb1, hb1⟩
          have d1 := bT (unhide HB0) hb1
          have row1 := (unhide HRow).of d1
          have rj := row1.at j (by omega)
          rw [hfj] at rj
          have r3 := row1.size
          have HB := hide (bT hb d1)
          clear hb1 d1 row1 HRow HB0 HK HTb c0 c1 c2 c3 c4 c5 c6 hfj
          go_wp2
          refine wp_loop_rounds 3 ?_
          rw [rounds_succ]
          go_wp2
          rw [rounds_succ]
          go_wp2
          go_ret
          exact ⟨congrArg (fun z => Ending.returned (.bool z)) (unhide HE).symm, unhide HB⟩
        · rw [if_pos ⟨by omega, unhide HR1, by omega, hL1⟩] at hv
          obtain ⟨q, rfl⟩ : ∃ q : Nat, L = (q : Int) := ⟨L.toNat, by omega⟩
          rw [show ((q : Int)).toNat = q by omega] at hv
          have hq : q < k := by omega
          have hxq := unhide HXk q hq
          rw [hv] at HNext
          have HNx := hide (unhide HNext _ rfl hxq.2)
          have hfq := hxq.1
          have hL2 : ((q : Int) != frm (nds ps) j - 1) = false := by simp [hL1]
          have hqn : (q : Int) < (ps.length : Int) := by omega
          have hfr2 := unhide HFl q
          have HHv := hide hv; have HL1 := hide hL1
          clear hv HNext HBad HXk HFl hL1 hxq
          generalize frm (nds ps) j = z at *
          generalize frm (nds ps) q = y at *
          go_wp2_with fail
          refine (unhide HK _ (unhide HB0)).mono ?_; rintro e w1 ⟨b, rfl, hbs, hbl, cb0, cb1, hb1⟩
          have d1 := bT (unhide HB0) hb1
          have row1 := (unhide HRow).of d1
          have r1 := row1.at k (by omega)
          have rj := row1.at j (by omega)
          rw [hfj] at rj
          have rq := row1.at q (by omega)
          rw [hfq] at rq
          have r2 := row1.frz
          have r3 := row1.size
          have HSet := hide (row1.set k (by omega) y)
          have HB := hide (bT hb d1)
          clear hb1 d1 row1 HRow HB0 HK HTb c0 c1 c2 c3 c4 c5 c6 hfj hfq
          go_wp2
          refine wp_loop_rounds 3 ?_
          rw [rounds_succ]
          go_wp2
          rw [rounds_succ]
          go_wp2
          rw [rounds_succ]
          go_wp2
          go_roundw
          case rel => exact ⟨k + 1, xs.set k y, by omega, by go_num, by simp [hxl], unhide HNx, unhide HSet, (unhide HB).setCell (p := ⟨w.heap.size, k, none⟩) (Nat.le_refl _) _⟩
          case measure => simp [intOf]; omega
    · obtain rfl : k = ps.length := by omega
      have hl := unhide HXl
      have c0 := hrow.at (ps.length - 1) (by omega)
      rw [(unhide HX (ps.length - 1) (by omega)).1] at c0
      have hkk : ((ps.length - 1 : Nat) : Int) = (ps.length : Int) - 1 := by omega
      have HE : Hid (dB (frm (nds ps) (ps.length - 1) = 0) = (frm (nds ps) (ps.length - 1) == 0)) := by
        show _ = _
        rw [Bool.eq_iff_iff, dB_iff]
        simp
      have hsz := hrow.size
      obtain ⟨m, hm⟩ : ∃ m : Nat, ps.length - 1 = m := ⟨_, rfl⟩
      rw [hm] at c0 hkk
      obtain ⟨z, hz⟩ : ∃ z, frm (nds ps) m = z := ⟨_, rfl⟩
      rw [hz] at c0
      have HE2 : Hid (dB (frm (nds ps) (ps.length - 1) = 0) = (z == 0)) := by
        show _ = _
        rw [HE.out, hm, hz]
      have i0 : (0 : Int) ≤ (ps.length : Int) - 1 := by omega
      have i1 : (ps.length : Int) - 1 < (ps.length : Int) := by omega
      have i2 : ((ps.length : Int) - 1).toNat = m := by omega
      clear HX hl HXl hm HF HT HN hz HE
      go_wp2
      go_ret
      exact ⟨congrArg (fun z => Ending.returned (.bool z)) HE2.out.symm, hb⟩
end Go.Proofs.YtnchcndcinpalaaGreatDoor
