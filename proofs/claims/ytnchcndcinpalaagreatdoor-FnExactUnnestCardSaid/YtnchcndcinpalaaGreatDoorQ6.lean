import Derived.Test.YtnchcndcinpalaaGreatDoorQ4
import Derived.Test.YtnchcndcinpalaaGreatDoorQ5
import Derived.BigQuiet
import Derived.Deep.RegionHeld3
import Derived.Deep.DeepCutAuto
import Derived.Test.YtnchcndcinpalaaGreatDoorQ3
import Derived.Test.YtnchcndcinpalaaGreatDoorQ1
namespace Go.Proofs.YtnchcndcinpalaaGreatDoor
open Go Go.RowKit
def fidx (ts : List Tb) (l : List UInt8) : Int := ((ts.findIdx? (fun t => t.Name.toList == l)).map (fun k : Nat => (k : Int))).getD (-1)
theorem fidx_at {ts : List Tb} {l : List UInt8} {k : Nat} (hk : k < ts.length) (h : ∀ (j : Nat) (hj : j < ts.length), j < k → (ts[j]).Name.toList ≠ l) (he : (ts[k]).Name.toList = l) : fidx ts l = (k : Int) := by
  unfold fidx
  rw [List.findIdx?_eq_some_iff_getElem.2 ⟨hk, by simp [he], fun j hj => by simp [h j (by omega) hj]⟩]
  rfl
theorem fidx_none {ts : List Tb} {l : List UInt8} (h : ∀ (j : Nat) (hj : j < ts.length), (ts[j]).Name.toList ≠ l) : fidx ts l = -1 := by
  unfold fidx
  rw [List.findIdx?_eq_none_iff.2 (fun t ht => by
    obtain ⟨j, hj, rfl⟩ := List.mem_iff_getElem.1 ht
    simp [h j hj])]
  rfl
theorem fidx_range (ts : List Tb) (l : List UInt8) : -1 ≤ fidx ts l ∧ fidx ts l < ts.length + 1 := by
  unfold fidx
  cases h : ts.findIdx? (fun t => t.Name.toList == l) with
  | none => simp; omega
  | some k =>
    have := (List.findIdx?_eq_some_iff_getElem.1 h).1
    simp; omega
def sumR : List Tb → Nat
  | [] => 0
  | t :: r => t.Rows.length + sumR r
theorem sumR_append (a b : List Tb) : sumR (a ++ b) = sumR a + sumR b := by
  induction a with
  | nil => simp [sumR]
  | cons x a ih => simp only [List.cons_append, sumR, ih]; omega
theorem sumR_take (ts : List Tb) (k : Nat) (hk : k < ts.length) : sumR (ts.take (k + 1)) = sumR (ts.take k) + (ts[k]).Rows.length := by
  rw [take_snoc ts k hk, sumR_append]; simp [sumR]
theorem sumR_bulk : ∀ (ts : List Tb), sumR ts ≤ bulkT ts
  | [] => by simp [sumR]
  | t :: r => by have := sumR_bulk r; simp only [sumR, bulkT]; omega
theorem sumR_take_le (ts : List Tb) (k : Nat) : sumR (ts.take k) ≤ bulkT ts := Nat.le_trans (sumR_bulk _) (bulkT_take_le ts k)
def TbV (ts : List Tb) (i : Nat) (t : Tb) : Prop := NameB t.Name ∧ 1 ≤ t.Cols ∧ t.Cols ≤ 16 ∧ fidx ts t.Name.toList = (i : Int) ∧ ∀ xs ∈ t.Rows, (xs.length : Int) = t.Cols
structure DbV (ts : List Tb) : Prop where
  few : ts.length ≤ 50
  each : ∀ (i : Nat) (hi : i < ts.length), TbV ts i ts[i]
  rows : sumR ts ≤ 1000
def SmallT (ts : List Tb) : Prop := bulkT ts ≤ 1048576
set_option maxHeartbeats 1000000 in
theorem l3Table_calls (ts : List Tb) (s : ByteArray) (g cap : Nat) (w : World) (hg : g < w.heap.size) (hn : TablesAt w g 0 ts) (hb1 : ts.length ≤ 1048576) :
    Calls Tryz.prog 94 #[.agg #[.slice (some ⟨g, 0, none⟩) ts.length cap], .string s] w fun e w' => e = .returned (.int .i64 (fidx ts s.toList)) ∧ Below w.heap.size w w' := by
  have HN := hide hn
  clear hn
  go_enter Tryz.func94, Tryz.ntmps94
  go_wp2
  go_loopw [5] (fun c wr => ∃ k : Nat, k ≤ ts.length ∧ c = .int .i64 k ∧ (∀ (j : Nat) (hj : j < ts.length), j < k → (ts[j]).Name.toList ≠ s.toList) ∧ wr.cell? ⟨w.heap.size, 0, none⟩ = some (.slice (some ⟨g, 0, none⟩) ts.length cap) ∧ w.heap.size < wr.heap.size ∧ Below w.heap.size w wr) (fun c _ => ts.length - (intOf c).toNat)
  case atStart => exact ⟨0, Nat.zero_le _, rfl, fun j hj h => by omega, by simp [go_sem], by simp, bA (Below.refl _ _) _⟩
  case round =>
    obtain ⟨k, hk, rfl, hw, ba, sa, hb⟩ := hrel
    have HW := hide hw
    clear hw
    by_cases hlt : k < ts.length
    · obtain ⟨c0, _, _, _, _⟩ := ((unhide HN).of hg hb).at k hlt
      simp only [Nat.zero_add] at c0
      have j1 : (k : Int) < (ts.length : Int) := by omega
      have q1 : g < wr.heap.size := Nat.lt_of_lt_of_le hg hb.size
      have hhit : (ts[k]).Name.toList = s.toList → fidx ts s.toList = (k : Int) := fun h => fidx_at hlt (unhide HW) h
      have hmiss : (ts[k]).Name.toList ≠ s.toList → ∀ (j : Nat) (hj : j < ts.length), j < k + 1 → (ts[j]).Name.toList ≠ s.toList := fun h j hj hjk => by
        by_cases e : j = k
        · subst e; exact h
        · exact unhide HW j hj (by omega)
      have Hh := hide hhit; have Hm := hide hmiss
      clear hhit hmiss
      generalize (ts[k]).Name = nm at *
      cases he : (nm.toList == s.toList)
      · have HNx := hide (unhide Hm (beq_eq_false_iff_ne.1 he))
        clear Hh Hm
        go_wp2
        go_roundw
        case rel => exact ⟨k + 1, by omega, by go_num, unhide HNx, ba, sa, hb⟩
        case measure => simp [intOf]; omega
      · have HE := hide (unhide Hh (beq_iff_eq.1 he))
        clear Hh Hm
        go_wp2
        go_ret
        exact ⟨congrArg (fun z => Ending.returned (.int .i64 z)) (unhide HE).symm, hb⟩
    · obtain rfl : k = ts.length := by omega
      have HE := hide (fidx_none (fun j hj => unhide HW j hj hj))
      clear HW
      go_wp2
      go_ret
      exact ⟨congrArg (fun z => Ending.returned (.int .i64 z)) (unhide HE).symm, hb⟩
set_option maxHeartbeats 4000000 in
theorem sDbOk_calls (ts : List Tb) (g cap : Nat) (w : World) (hg : g < w.heap.size) (hn : TablesAt w g 0 ts) (hb0 : ts.length ≤ 1048576) (hsm : SmallT ts) :
    Calls Tryz.prog 53 #[.agg #[.slice (some ⟨g, 0, none⟩) ts.length cap]] w fun e w' => e = .returned (.bool (dB (DbV ts))) ∧ Below w.heap.size w w' := by
  by_cases h2 : (50 : Int) < (ts.length : Int)
  · have HE : Hid (dB (DbV ts) = false) := dB_false (fun h => by have := h.few; omega)
    clear hn hsm
    go_enter Tryz.func53, Tryz.ntmps53
    go_wp2
    go_ret
    exact ⟨congrArg (fun z => Ending.returned (.bool z)) HE.out.symm, bA (Below.refl _ _) _⟩
  have hbul : bulkT ts ≤ 1048576 := hsm
  have HN := hide hn
  clear hn hsm
  go_enter Tryz.func53, Tryz.ntmps53
  go_wp2
  go_loopw [3, 4, 5, 6] (fun r c _ _ wr => ∃ (k : Nat) (rw' : Int), k ≤ ts.length ∧ c = .int .i64 k ∧ r = .int .i64 rw' ∧ rw' = (sumR (ts.take k) : Int) ∧ (∀ (i : Nat) (hi : i < ts.length), i < k → TbV ts i ts[i]) ∧ wr.cell? ⟨w.heap.size, 0, none⟩ = some (.slice (some ⟨g, 0, none⟩) ts.length cap) ∧ w.heap.size < wr.heap.size ∧ Below w.heap.size w wr) (fun _ c _ _ _ => ts.length - (intOf c).toNat)
  case atStart => exact ⟨0, 0, Nat.zero_le _, rfl, rfl, by simp [sumR], fun i hi h => by omega, by simp [go_sem], by simp, bA (Below.refl _ _) _⟩
  case round =>
    obtain ⟨k, rv', hk, rfl, rfl, hrv, hw, ba, sa, hb⟩ := hrel
    have HW := hide hw; have HRv := hide hrv
    have hrvb : 0 ≤ rv' ∧ rv' ≤ 1048576 := by have := sumR_take_le ts k; omega
    obtain ⟨hrv0, hrv1⟩ := hrvb
    clear hw hrv
    by_cases hlt : k < ts.length
    · obtain ⟨c0, c1, G, c2, hMR⟩ := ((unhide HN).of hg hb).at k hlt
      have hLT := fun W (hbW : Below w.heap.size w W) => l3Table_calls ts (ts[k]).Name g cap W (Nat.lt_of_lt_of_le hg hbW.size) ((unhide HN).of hg hbW) hb0
      have hbad : ¬ TbV ts k ts[k] → dB (DbV ts) = false := fun h => dB_false (fun hh => h (hh.each k hlt))
      have hgood : TbV ts k ts[k] → ∀ (i : Nat) (hi : i < ts.length), i < k + 1 → TbV ts i ts[i] := fun h i hi hik => by
        by_cases e : i = k
        · subst e; exact h
        · exact unhide HW i hi (by omega)
      have hsum := sumR_take ts k hlt
      have hmem := bulkT_mem (List.getElem_mem hlt)
      have hfr := fidx_range ts (ts[k]).Name.toList
      cases e : ts[k] with | mk S C xss =>
      rw [e] at c0 c1 c2 hMR hLT hbad hgood hsum hmem hfr
      simp only [Nat.zero_add] at c0 c1 c2 hMR hLT hbad hgood hsum hmem hfr
      have hSs : S.size ≤ 1048576 := by omega
      have hxl : xss.length ≤ 1048576 := by omega
      have NC := fun w => sIsName_calls S w hSs
      have hNd : dB (NameB S) = true ↔ NameB S := dB_iff
      have hdef : TbV ts k ⟨S, C, xss⟩ ↔ (dB (NameB S) = true ∧ 1 ≤ C ∧ C ≤ 16 ∧ fidx ts S.toList = (k : Int) ∧ ∀ xs ∈ xss, (xs.length : Int) = C) := by rw [hNd]; exact Iff.rfl
      generalize dB (NameB S) = b1 at *
      generalize fidx ts S.toList = fx at *
      have HNC := hide NC; have HLT := hide hLT; have HBad := hide hbad; have HGood := hide hgood; have HDef := hide hdef; have HSum := hide hsum; have HMR := hide hMR
      have j1 : (k : Int) < (ts.length : Int) := by omega
      have q1 : g < wr.heap.size := Nat.lt_of_lt_of_le hg hb.size
      clear NC hLT hbad hgood hdef hsum hNd e hmem hMR
      cases b1
      · have HE := hide (unhide HBad (fun h => by have := ((unhide HDef).1 h).1; cases this))
        go_wp2_with fail
        refine (unhide HNC _).mono ?_; rintro e w1 ⟨rfl, rfl⟩
        go_wp2
        go_ret
        exact ⟨congrArg (fun z => Ending.returned (.bool z)) (unhide HE).symm, bA hb _⟩
      by_cases hC1 : C < 1
      · have HE := hide (unhide HBad (fun h => by have := ((unhide HDef).1 h).2.1; omega))
        go_wp2_with fail
        refine (unhide HNC _).mono ?_; rintro e w1 ⟨rfl, rfl⟩
        go_wp2
        go_ret
        exact ⟨congrArg (fun z => Ending.returned (.bool z)) (unhide HE).symm, bA hb _⟩
      by_cases hC2 : 16 < C
      · have HE := hide (unhide HBad (fun h => by have := ((unhide HDef).1 h).2.2.1; omega))
        go_wp2_with fail
        refine (unhide HNC _).mono ?_; rintro e w1 ⟨rfl, rfl⟩
        go_wp2
        go_ret
        exact ⟨congrArg (fun z => Ending.returned (.bool z)) (unhide HE).symm, bA hb _⟩
      have baA : (wr.alloc (.cells #[.string S, .int .i64 C, .slice (some ⟨G, 0, none⟩) xss.length xss.length] 112)).cell? ⟨w.heap.size, 0, none⟩ = some (.slice (some ⟨g, 0, none⟩) ts.length cap) := (((Below.refl wr.heap.size wr).alloc (Nat.le_refl _) _).cell (p := ⟨w.heap.size, 0, none⟩) sa).trans ba
      cases hfx : (fx != (k : Int))
      rotate_left
      · have HE := hide (unhide HBad (fun h => by have := ((unhide HDef).1 h).2.2.2.1; simp [this] at hfx))
        go_wp2_with fail
        refine (unhide HNC _).mono ?_; rintro e w1 ⟨rfl, rfl⟩
        go_wp2_with fail
        refine (unhide HLT _ (bA hb _)).mono ?_; rintro e w2 ⟨rfl, hb2⟩
        go_wp2
        go_ret
        exact ⟨congrArg (fun z => Ending.returned (.bool z)) (unhide HE).symm, bT (bA hb _) hb2⟩
      go_wp2_with fail
      refine (unhide HNC _).mono ?_; rintro e w1 ⟨rfl, rfl⟩
      go_wp2_with fail
      refine (unhide HLT _ (bA hb _)).mono ?_; rintro e w2 ⟨rfl, hb2⟩
      have hbA := bA (Below.refl wr.heap.size wr) (.cells #[.string S, .int .i64 C, .slice (some ⟨G, 0, none⟩) xss.length xss.length] 112)
      have n1 : w2.cell? ⟨wr.heap.size, 1, none⟩ = some (.int .i64 C) := (hb2.cell (p := ⟨wr.heap.size, 1, none⟩) (by simp)).trans (by simp [go_sem])
      have n2 : w2.cell? ⟨wr.heap.size, 2, none⟩ = some (.slice (some ⟨G, 0, none⟩) xss.length xss.length) := (hb2.cell (p := ⟨wr.heap.size, 2, none⟩) (by simp)).trans (by simp [go_sem])
      have ba2 : w2.cell? ⟨w.heap.size, 0, none⟩ = some (.slice (some ⟨g, 0, none⟩) ts.length cap) := (hb2.cell (p := ⟨w.heap.size, 0, none⟩) (by simp; omega)).trans baA
      have hMR2 := ((unhide HMR).of hbA).of hb2
      have d2 := bT (bA hb (.cells #[.string S, .int .i64 C, .slice (some ⟨G, 0, none⟩) xss.length xss.length] 112)) hb2
      have s2 : wr.heap.size < w2.heap.size := by have := hb2.size; simp at this; omega
      have hfk : fx = (k : Int) := by simpa using hfx
      have HFk := hide hfk; have HMR2 := hide hMR2
      clear hfk hMR2 HMR baA hbA hb2 HLT HNC hfr c0 c1 c2 ba
      generalize wr.heap.size = b5 at *
      go_wp2
      go_loopw [6] (fun c wi => ∃ j : Nat, j ≤ xss.length ∧ c = .int .i64 j ∧ (∀ xs ∈ xss.take j, (xs.length : Int) = C) ∧ Below w2.heap.size w2 wi) (fun c _ => xss.length - (intOf c).toNat)
      case atStart => exact ⟨0, Nat.zero_le _, rfl, fun x hx => by simp at hx, Below.refl _ _⟩
      case round =>
        obtain ⟨j, hj, rfl, hjw, hbi⟩ := hrel
        have HJ := hide hjw
        clear hjw
        have m1 := (hbi.cell (p := ⟨b5, 1, none⟩) s2).trans n1
        have m2 := (hbi.cell (p := ⟨b5, 2, none⟩) s2).trans n2
        have sb : b5 < wr.heap.size := Nat.lt_of_lt_of_le s2 hbi.size
        by_cases hjl : j < xss.length
        · obtain ⟨r, r0, hre, _, _, _, _⟩ := ((unhide HMR2).of hbi).row j hjl
          unfold rv at r0
          rw [hre] at r0
          have j2 : (j : Int) < (xss.length : Int) := by omega
          have hGs : G < wr.heap.size := ((unhide HMR2).of hbi).2.1
          have hnext : ((xss[j]).length : Int) = C → ∀ xs ∈ xss.take (j + 1), (xs.length : Int) = C := fun h x hx => by
            rw [take_snoc xss j hjl] at hx
            rcases List.mem_append.1 hx with h' | h'
            · exact unhide HJ x h'
            · simp only [List.mem_singleton] at h'; rw [h']; exact h
          have hno : ((xss[j]).length : Int) ≠ C → dB (DbV ts) = false := fun h => unhide HBad (fun hh => h (((unhide HDef).1 hh).2.2.2.2 _ (List.getElem_mem hjl)))
          generalize (xss[j]).length = xl at *
          by_cases hx : (xl : Int) = C
          · have hx' : ((xl : Int) != C) = false := by simp [hx]
            have HNx := hide (hnext hx)
            clear hnext hno hx hre
            go_upto_region 13 with fail
            go_quiet (fail)
            go_wp2
            go_roundw
            case rel => exact ⟨j + 1, by omega, by go_num, unhide HNx, below_drewN hbi _⟩
            case measure => simp [intOf]; omega
          · have hx' : ((xl : Int) != C) = true := by simp [hx]
            have HE := hide (hno hx)
            clear hnext hno hx hre
            go_upto_region 13 with fail
            go_quiet (fail)
            go_wp2
            go_ret
            exact ⟨congrArg (fun z => Ending.returned (.bool z)) (unhide HE).symm, below_drewN (bT d2 hbi) _⟩
        · obtain rfl : j = xss.length := by omega
          have hall := unhide HJ
          rw [List.take_length] at hall
          have HGd := hide (unhide HGood ((unhide HDef).2 ⟨by first | rfl | trivial, by omega, by omega, unhide HFk, hall⟩))
          have ba3 := (hbi.cell (p := ⟨w.heap.size, 0, none⟩) (by show w.heap.size < _; have := d2.size; omega)).trans ba2
          have s3 := hbi.size
          clear hall
          go_wp2
          go_roundw
          case rel => exact ⟨k + 1, rv' + (xss.length : Int), by omega, by go_num, by first | rfl | (congr 1; omega), by have h1 := unhide HSum; have h2 := unhide HRv; omega, unhide HGd, ba3, by omega, bT d2 hbi⟩
          case measure => simp [intOf]; omega
    · obtain rfl : k = ts.length := by omega
      have HE : Hid (dB (DbV ts) = decide (rv' ≤ 1000)) := by
        show _ = _
        rw [Bool.eq_iff_iff, dB_iff, decide_eq_true_eq]
        have := unhide HRv
        rw [List.take_length] at this
        exact ⟨fun h => by have := h.rows; omega, fun h => ⟨by omega, fun i hi => unhide HW i hi hi, by omega⟩⟩
      clear HW HRv
      go_wp2
      go_ret
      exact ⟨congrArg (fun z => Ending.returned (.bool z)) HE.out.symm, hb⟩
end Go.Proofs.YtnchcndcinpalaaGreatDoor
namespace Go.Proofs.YtnchcndcinpalaaGreatDoor
open Go Go.RowKit
abbrev UsedP (ts : List Tb) (p : Pn) : Prop := usedP ts.length p.K p.T p.M p.Ex.length p.Exs.length
def colsAt (ts : List Tb) (t : Int) : Int := (ts[t.toNat]?.map (fun t => t.Cols)).getD 0
def rawW (ts : List Tb) (p : Pn) (env l r : Int) : Int :=
  if p.K = 2 then colsAt ts p.T
  else if p.K = 3 then (if exOk (env + l) p.Ex = true then l else -1)
  else if p.K = 4 then (if ∀ xs ∈ p.Exs, exOk (env + l) xs = true then (p.Exs.length : Int) else -1)
  else if p.K = 5 ∨ p.K = 6 then l + r
  else if p.K = 7 ∨ p.K = 8 then (if p.M = 1 ∨ exOk (env + l + r) p.Ex = true then l + 1 else -1)
  else if p.K = 10 then (if l = r then l else -1)
  else l
def nodeW (ts : List Tb) (p : Pn) (env l r : Int) : Int := if rawW ts p env l r < 0 ∨ 200 < env + rawW ts p env l r then -1 else rawW ts p env l r
open Classical in
noncomputable def wid (ts : List Tb) (ps : List Pn) (i : Nat) (env : Int) : Int :=
  match ps[i]? with
  | none => -1
  | some p =>
    if ¬ UsedP ts p then -1 else
    let l := if 0 < arity p.K then (if _h : p.L.toNat < i then wid ts ps p.L.toNat env else -1) else 0
    if l < 0 then -1 else
    let r := if 1 < arity p.K then (if _h : p.R.toNat < i then wid ts ps p.R.toNat (insideW p.K env l) else -1) else 0
    if r < 0 then -1 else nodeW ts p env l r
  termination_by i
theorem nodeW_range (ts : List Tb) (p : Pn) (env l r : Int) : -1 ≤ nodeW ts p env l r ∧ (0 ≤ nodeW ts p env l r → env + nodeW ts p env l r ≤ 200) := by
  unfold nodeW
  generalize rawW ts p env l r = z
  split <;> omega
theorem wid_range (ts : List Tb) (ps : List Pn) (i : Nat) (env : Int) : -1 ≤ wid ts ps i env ∧ (0 ≤ wid ts ps i env → env + wid ts ps i env ≤ 200) := by
  unfold wid
  split
  · omega
  · split
    · omega
    · dsimp only
      generalize (if 0 < arity _ then (if _h : _ < i then wid ts ps _ env else -1) else 0) = l
      split
      · omega
      · generalize (if 1 < arity _ then (if _h : _ < i then wid ts ps _ _ else -1) else 0) = r
        split
        · omega
        · exact nodeW_range ts _ env l r
theorem kid_one {ps : List Pn} {i : Nat} (hi : i < ps.length) (h : frm (nds ps) i ≠ -1) (ha : arity (ps[i]).K = 1) : ∃ j : Nat, j < i ∧ (ps[i]).L = (j : Int) ∧ (ps[i]).R = 0 ∧ frm (nds ps) j ≠ -1 := by
  have hk := kidsAt_nds hi
  unfold kidsP at hk
  rw [if_neg (by omega), if_pos ha] at hk
  by_cases hr : (ps[i]).R = 0
  · rw [if_pos hr] at hk
    cases i with
    | zero => exact absurd (frm_one0 hk) h
    | succ j =>
      rw [frm_one hk] at h
      by_cases hl : (ps[j + 1]).L = (j : Int)
      · rw [if_pos hl] at h
        exact ⟨j, by omega, hl, hr, h⟩
      · rw [if_neg hl] at h
        exact absurd rfl h
  · rw [if_neg hr] at hk
    exact absurd (frm_neg hk) h
theorem kid_two {ps : List Pn} {i : Nat} (hi : i < ps.length) (h : frm (nds ps) i ≠ -1) (ha : arity (ps[i]).K = 2) : ∃ q j : Nat, q < i ∧ j < i ∧ (ps[i]).L = (q : Int) ∧ (ps[i]).R = (j : Int) ∧ frm (nds ps) q ≠ -1 ∧ frm (nds ps) j ≠ -1 := by
  have hk := kidsAt_nds hi
  unfold kidsP at hk
  rw [if_neg (by omega), if_neg (by omega), if_pos ha] at hk
  cases i with
  | zero => exact absurd (frm_two0 hk) h
  | succ j =>
    rw [frm_two hk] at h
    by_cases h1 : (ps[j + 1]).R ≠ (j : Int)
    · rw [if_pos h1] at h; exact absurd rfl h
    rw [if_neg h1] at h
    by_cases h2 : frm (nds ps) j < 1
    · rw [if_pos h2] at h; exact absurd rfl h
    rw [if_neg h2] at h
    by_cases h3 : (ps[j + 1]).L ≠ frm (nds ps) j - 1
    · rw [if_pos h3] at h; exact absurd rfl h
    rw [if_neg h3] at h
    have hle := (frm_le (nds ps) j).2
    exact ⟨(frm (nds ps) j - 1).toNat, j, by omega, by omega, by omega, by omega, h, by omega⟩
end Go.Proofs.YtnchcndcinpalaaGreatDoor
namespace Go.Proofs.YtnchcndcinpalaaGreatDoor
open Go Go.RowKit
theorem Seg.all {ns : List Nd} {P : Nat → Prop} (hk : ∀ i, P i → ∀ x ∈ kidsAt ns i, P x.toNat) {a b : Nat} {ks : List Int} (h : Seg ns a b ks) : (∀ x ∈ ks, P x.toNat) → ∀ j, a ≤ j → j < b → P j := by
  induction h with
  | nil a => intro _ j h1 h2; omega
  | @snoc a c p ks h1 h2 i1 i2 =>
    intro hr j e1 e2
    have hp : P p := by have := hr (p : Int) (by simp); simpa using this
    by_cases hc : j < c
    · exact i1 (fun x hx => hr x (by simp [hx])) j e1 hc
    · by_cases hj : j < p
      · exact i2 (hk p hp) j (by omega) hj
      · obtain rfl : j = p := by omega
        exact hp
theorem frm_seg {ns : List Nd} {i f : Nat} (h : frm ns i = (f : Int)) : Seg ns f i (kidsAt ns i) := by
  rcases frm_cases ns i with ⟨h1, _⟩ | ⟨f', h1, h2⟩
  · omega
  · obtain rfl : f' = f := by omega
    exact h2
theorem frm_all {ns : List Nd} {n : Nat} (h : frm ns n = 0) : ∀ j, j ≤ n → frm ns j ≠ -1 := by
  have hs : Seg ns 0 (n + 1) [(n : Int)] := (frm_seg (f := 0) (by simpa using h)).one
  intro j hj
  obtain ⟨f, hf⟩ := hs.each j (by omega) (by omega)
  rw [frm_some hf]
  omega
theorem kid_one' {ps : List Pn} {i : Nat} (hi : i < ps.length) (h : frm (nds ps) i ≠ -1) (ha : arity (ps[i]).K = 1) : ∃ j : Nat, i = j + 1 ∧ (ps[i]).L = (j : Int) ∧ (ps[i]).R = 0 ∧ frm (nds ps) j = frm (nds ps) i := by
  have hk := kidsAt_nds hi
  unfold kidsP at hk
  rw [if_neg (by omega), if_pos ha] at hk
  by_cases hr : (ps[i]).R = 0
  · rw [if_pos hr] at hk
    cases i with
    | zero => exact absurd (frm_one0 hk) h
    | succ j =>
      rw [frm_one hk] at h ⊢
      by_cases hl : (ps[j + 1]).L = (j : Int)
      · rw [if_pos hl]
        exact ⟨j, rfl, hl, hr, rfl⟩
      · rw [if_neg hl] at h
        exact absurd rfl h
  · rw [if_neg hr] at hk
    exact absurd (frm_neg hk) h
theorem kid_two' {ps : List Pn} {i : Nat} (hi : i < ps.length) (h : frm (nds ps) i ≠ -1) (ha : arity (ps[i]).K = 2) : ∃ q j : Nat, i = j + 1 ∧ q < j ∧ (ps[i]).L = (q : Int) ∧ (ps[i]).R = (j : Int) ∧ frm (nds ps) q = frm (nds ps) i ∧ frm (nds ps) j = (q : Int) + 1 := by
  have hk := kidsAt_nds hi
  unfold kidsP at hk
  rw [if_neg (by omega), if_neg (by omega), if_pos ha] at hk
  cases i with
  | zero => exact absurd (frm_two0 hk) h
  | succ j =>
    rw [frm_two hk] at h ⊢
    by_cases h1 : (ps[j + 1]).R ≠ (j : Int)
    · rw [if_pos h1] at h; exact absurd rfl h
    rw [if_neg h1] at h ⊢
    by_cases h2 : frm (nds ps) j < 1
    · rw [if_pos h2] at h; exact absurd rfl h
    rw [if_neg h2] at h ⊢
    by_cases h3 : (ps[j + 1]).L ≠ frm (nds ps) j - 1
    · rw [if_pos h3] at h; exact absurd rfl h
    rw [if_neg h3] at h ⊢
    have hle := (frm_le (nds ps) j).2
    exact ⟨(frm (nds ps) j - 1).toNat, j, rfl, by omega, by omega, by omega, rfl, by omega⟩
abbrev perRow (k : Int) : Prop := k = 6 ∨ k = 7 ∨ k = 8
abbrev usesEx (k m : Int) : Prop := (k = 3 ∨ k = 7 ∨ k = 8) ∧ m ≠ 1
def FldV (nt : Nat) (p : Pn) : Prop := 1 ≤ p.K ∧ p.K ≤ 10 ∧ usedP nt p.K p.T p.M p.Ex.length p.Exs.length ∧ (arity p.K = 0 → p.L = 0) ∧ (arity p.K ≠ 2 → p.R = 0)
theorem arity_of {k : Int} (h1 : 1 ≤ k) (h2 : k ≤ 10) : arity k = 0 ∨ arity k = 1 ∨ arity k = 2 := by
  unfold arity
  split
  · simp
  split
  · simp
  rw [if_pos ⟨h1, h2⟩]
  simp
def stepW (ts : List Tb) (p : Pn) (l r : Int) : Int :=
  if p.K = 2 then colsAt ts p.T else if p.K = 4 then (p.Exs.length : Int) else if p.K = 5 ∨ p.K = 6 then l + r else if p.K = 7 ∨ p.K = 8 then l + 1 else if p.K = 3 ∨ p.K = 9 ∨ p.K = 10 then l else 0
def iw (ts : List Tb) (ps : List Pn) (i : Nat) : Int :=
  match ps[i]? with
  | none => 0
  | some p => stepW ts p (if _h : p.L.toNat < i then iw ts ps p.L.toNat else 0) (if _h : p.R.toNat < i then iw ts ps p.R.toNat else 0)
  termination_by i
theorem iw_at (ts : List Tb) {ps : List Pn} {i : Nat} (hi : i < ps.length) : iw ts ps i = stepW ts ps[i] (if (ps[i]).L.toNat < i then iw ts ps (ps[i]).L.toNat else 0) (if (ps[i]).R.toNat < i then iw ts ps (ps[i]).R.toNat else 0) := by
  conv => lhs; rw [iw]
  rw [List.getElem?_eq_getElem hi]
  dsimp only
  congr 1
theorem wid_at (ts : List Tb) {ps : List Pn} {i : Nat} (hi : i < ps.length) (env : Int) (hu : UsedP ts ps[i]) (hl : 0 < arity (ps[i]).K → (ps[i]).L.toNat < i) (hr : 1 < arity (ps[i]).K → (ps[i]).R.toNat < i) :
    wid ts ps i env = (if (if 0 < arity (ps[i]).K then wid ts ps (ps[i]).L.toNat env else 0) < 0 then -1 else
      if (if 1 < arity (ps[i]).K then wid ts ps (ps[i]).R.toNat (insideW (ps[i]).K env (if 0 < arity (ps[i]).K then wid ts ps (ps[i]).L.toNat env else 0)) else 0) < 0 then -1 else
      nodeW ts ps[i] env (if 0 < arity (ps[i]).K then wid ts ps (ps[i]).L.toNat env else 0) (if 1 < arity (ps[i]).K then wid ts ps (ps[i]).R.toNat (insideW (ps[i]).K env (if 0 < arity (ps[i]).K then wid ts ps (ps[i]).L.toNat env else 0)) else 0)) := by
  have el : (if 0 < arity (ps[i]).K then (if _h : (ps[i]).L.toNat < i then wid ts ps (ps[i]).L.toNat env else -1) else 0) = (if 0 < arity (ps[i]).K then wid ts ps (ps[i]).L.toNat env else 0) := by
    split
    · rename_i h; rw [dif_pos (hl h)]
    · rfl
  have er : ∀ e, (if 1 < arity (ps[i]).K then (if _h : (ps[i]).R.toNat < i then wid ts ps (ps[i]).R.toNat e else -1) else 0) = (if 1 < arity (ps[i]).K then wid ts ps (ps[i]).R.toNat e else 0) := fun e => by
    split
    · rename_i h; rw [dif_pos (hr h)]
    · rfl
  conv => lhs; rw [wid]
  rw [List.getElem?_eq_getElem hi]
  dsimp only
  rw [if_neg (by simpa using hu)]
  simp only [el, er]
structure Handed (ps : List Pn) (f : Int → Int → Int) (root : Int) (G : List Int) : Prop where
  len : G.length = ps.length
  top : G.getD (ps.length - 1) 0 = root
  left : ∀ (i : Nat) (hi : i < ps.length), 0 < arity (ps[i]).K → G.getD (ps[i]).L.toNat 0 = G.getD i 0
  right : ∀ (i : Nat) (hi : i < ps.length), 1 < arity (ps[i]).K → G.getD (ps[i]).R.toNat 0 = if perRow (ps[i]).K then f (G.getD i 0) (ps[i]).L else G.getD i 0
structure HandTo (ps : List Pn) (f : Int → Int → Int) (root : Int) (G : List Int) (i : Nat) : Prop where
  len : G.length = ps.length
  top : G.getD (ps.length - 1) 0 = root
  seg : ∃ Ls, Seg (nds ps) 0 i Ls ∧ ∀ (j : Nat) (hj : j < ps.length), i ≤ j →
    (0 < arity (ps[j]).K → (i ≤ (ps[j]).L.toNat ∨ (ps[j]).L ∈ Ls) ∧ G.getD (ps[j]).L.toNat 0 = G.getD j 0) ∧
    (1 < arity (ps[j]).K → (i ≤ (ps[j]).R.toNat ∨ (ps[j]).R ∈ Ls) ∧ G.getD (ps[j]).R.toNat 0 = if perRow (ps[j]).K then f (G.getD j 0) (ps[j]).L else G.getD j 0)
theorem HandTo.start {ps : List Pn} (h0 : 1 ≤ ps.length) (hf : frm (nds ps) (ps.length - 1) = 0) (f : Int → Int → Int) (root : Int) {G : List Int} (hl : G.length = ps.length) (ht : G.getD (ps.length - 1) 0 = root) : HandTo ps f root G ps.length :=
  ⟨hl, ht, [((ps.length - 1 : Nat) : Int)], by
    have := (frm_seg (f := 0) (by simpa using hf)).one
    rwa [show ps.length - 1 + 1 = ps.length by omega] at this, fun j hj h => by omega⟩
theorem HandTo.done {ps : List Pn} {f : Int → Int → Int} {root : Int} {G : List Int} (h : HandTo ps f root G 0) : Handed ps f root G := by
  obtain ⟨Ls, _, h2⟩ := h.seg
  exact ⟨h.len, h.top, fun i hi ha => ((h2 i hi (by omega)).1 ha).2, fun i hi ha => ((h2 i hi (by omega)).2 ha).2⟩
theorem HandTo.step {ps : List Pn} {f : Int → Int → Int} {root : Int} {G G' : List Int} {k : Nat} (h : HandTo ps f root G (k + 1)) (hk : k < ps.length) (hlen : G'.length = ps.length)
    (hin : (0 < arity (ps[k]).K → (ps[k]).L ∈ kidsAt (nds ps) k) ∧ (1 < arity (ps[k]).K → (ps[k]).R ∈ kidsAt (nds ps) k))
    (hsame : ∀ x : Nat, (x : Int) ∉ kidsAt (nds ps) k → G'.getD x 0 = G.getD x 0) (hL : 0 < arity (ps[k]).K → G'.getD (ps[k]).L.toNat 0 = G.getD k 0)
    (hR : 1 < arity (ps[k]).K → G'.getD (ps[k]).R.toNat 0 = if perRow (ps[k]).K then f (G.getD k 0) (ps[k]).L else G.getD k 0) : HandTo ps f root G' k := by
  obtain ⟨Ls, hs, hr⟩ := h.seg
  obtain ⟨A, rfl⟩ := hs.last
  obtain ⟨p, c, e1, _, hA, hK⟩ := hs.inv
  obtain rfl : p = k := by omega
  have hup : ∀ x : Nat, p ≤ x → (x : Int) ∉ kidsAt (nds ps) p := fun x hx hm => by
    obtain ⟨q, e, _, h2⟩ := hK.kid _ hm
    omega
  have hto : ∀ y : Int, y ∈ A ++ [(p : Int)] ∨ p + 1 ≤ y.toNat → G'.getD y.toNat 0 = G.getD y.toNat 0 := fun y hy => by
    apply hsame
    rcases hy with hy | hy
    · rcases List.mem_append.1 hy with h' | h'
      · obtain ⟨q, e, _, h2⟩ := hA.kid _ h'
        intro hm
        obtain ⟨q', e', h3, _⟩ := hK.kid _ hm
        omega
      · simp only [List.mem_singleton] at h'
        exact hup _ (by omega)
    · exact hup _ (by omega)
  have hnew : ∀ y : Int, (p + 1 ≤ y.toNat ∨ y ∈ A ++ [(p : Int)]) → (p ≤ y.toNat ∨ y ∈ A ++ kidsAt (nds ps) p) := fun y hy => by
    rcases hy with h' | h'
    · exact Or.inl (by omega)
    · rcases List.mem_append.1 h' with h'' | h''
      · exact Or.inr (List.mem_append_left _ h'')
      · simp only [List.mem_singleton] at h''
        exact Or.inl (by omega)
  refine ⟨hlen, ?_, A ++ kidsAt (nds ps) p, hA.join hK, fun j hj hjp => ?_⟩
  · rw [hsame _ (hup _ (by omega))]
    exact h.top
  · by_cases e : j = p
    · subst e
      rw [hsame j (hup _ (by omega))]
      exact ⟨fun ha => ⟨Or.inr (List.mem_append_right _ (hin.1 ha)), hL ha⟩, fun ha => ⟨Or.inr (List.mem_append_right _ (hin.2 ha)), hR ha⟩⟩
    · obtain ⟨r1, r2⟩ := hr j hj (by omega)
      rw [hsame j (hup _ (by omega))]
      refine ⟨fun ha => ?_, fun ha => ?_⟩
      · obtain ⟨h1, h2⟩ := r1 ha
        exact ⟨hnew _ h1, by rw [hto _ h1.symm]; exact h2⟩
      · obtain ⟨h1, h2⟩ := r2 ha
        exact ⟨hnew _ h1, by rw [hto _ h1.symm]; exact h2⟩
def ExsV (p : Pn) (env l r : Int) : Prop := if usesEx p.K p.M then exOk (env + l + (if perRow p.K then r else 0)) p.Ex = true else ∀ xs ∈ p.Exs, exOk (env + l) xs = true
def CondI (ts : List Tb) (ps : List Pn) (G : List Int) (i : Nat) (p : Pn) : Prop :=
  G.getD i 0 + iw ts ps i ≤ 200 ∧ (p.K = 10 → iw ts ps p.L.toNat = iw ts ps p.R.toNat) ∧ ExsV p (G.getD i 0) (iw ts ps p.L.toNat) (iw ts ps p.R.toNat)
theorem colsAt_pos {ts : List Tb} (hd : DbV ts) {t : Int} (h0 : 0 ≤ t) (h1 : t < (ts.length : Int)) : 1 ≤ colsAt ts t ∧ colsAt ts t ≤ 16 := by
  have hi : t.toNat < ts.length := by omega
  unfold colsAt
  rw [List.getElem?_eq_getElem hi]
  have := hd.each _ hi
  exact ⟨this.2.1, this.2.2.1⟩
theorem nodeW_iff {ts : List Tb} {p : Pn} {env l r : Int} (hF : FldV ts.length p) (hl : 0 ≤ l) (hr : 0 ≤ r) (hd : DbV ts) (h0 : arity p.K = 0 → l = 0) :
    (0 ≤ nodeW ts p env l r ↔ (env + stepW ts p l r ≤ 200 ∧ (p.K = 10 → l = r) ∧ ExsV p env l r)) ∧ (0 ≤ nodeW ts p env l r → nodeW ts p env l r = stepW ts p l r) ∧ 0 ≤ stepW ts p l r := by
  obtain ⟨k1, k2, hu, hL, hR⟩ := hF
  have hc : p.K = 1 ∨ p.K = 2 ∨ p.K = 3 ∨ p.K = 4 ∨ p.K = 5 ∨ p.K = 6 ∨ p.K = 7 ∨ p.K = 8 ∨ p.K = 9 ∨ p.K = 10 := by omega
  obtain ⟨u1, u2, u3, u4, u5, u6⟩ := hu
  have hcols := fun h => colsAt_pos hd (u2 h).1 (u2 h).2
  unfold nodeW rawW stepW ExsV usesEx perRow
  generalize colsAt ts p.T = C at *
  rcases hc with h | h | h | h | h | h | h | h | h | h
  · have e0 := h0 (by rw [h]; rfl)
    have e1 : p.Exs = [] := List.eq_nil_of_length_eq_zero (by omega)
    simp [h, e0, e1]
    split <;> omega
  · have := hcols h
    have e1 : p.Exs = [] := List.eq_nil_of_length_eq_zero (by omega)
    simp [h, e1]
    refine ⟨?_, ?_, by omega⟩ <;> split <;> omega
  · have e1 := u3 (by omega)
    simp [h, e1]
    by_cases hx : exOk (env + l) p.Ex = true
    · simp [hx]
      refine ⟨?_, ?_, by omega⟩ <;> split <;> omega
    · simp [hx, hl]
  · simp [h]
    by_cases hx : ∀ xs ∈ p.Exs, exOk (env + l) xs = true
    · simp only [if_pos hx]
      refine ⟨⟨fun hh => ⟨by split at hh <;> omega, hx⟩, fun hh => ?_⟩, fun hh => ?_⟩
      · rw [if_neg (by omega)]; omega
      · split at hh
        · omega
        · rw [if_neg (by assumption)]
    · simp only [if_neg hx]
      exact ⟨⟨fun hh => by simp at hh, fun hh => absurd hh.2 hx⟩, fun hh => by simp at hh⟩
  · have e1 : p.Exs = [] := List.eq_nil_of_length_eq_zero (by omega)
    simp [h, e1]
    refine ⟨?_, ?_, by omega⟩ <;> split <;> omega
  · have e1 : p.Exs = [] := List.eq_nil_of_length_eq_zero (by omega)
    simp [h, e1]
    refine ⟨?_, ?_, by omega⟩ <;> split <;> omega
  · have e1 := u3 (by omega)
    simp [h, e1]
    by_cases hx : exOk (env + l + r) p.Ex = true
    · simp [hx]
      refine ⟨?_, ?_, by omega⟩ <;> split <;> omega
    · simp [hx]; omega
  · have e1 : p.Exs = [] := List.eq_nil_of_length_eq_zero (by omega)
    by_cases hm : p.M = 1
    · simp [h, hm, e1]
      refine ⟨?_, ?_, by omega⟩ <;> split <;> omega
    · simp [h, hm]
      by_cases hx : exOk (env + l + r) p.Ex = true
      · simp [hx]
        refine ⟨?_, ?_, by omega⟩ <;> split <;> omega
      · simp [hx]; omega
  · have e1 : p.Exs = [] := List.eq_nil_of_length_eq_zero (by omega)
    simp [h, e1, hl]
    refine ⟨?_, ?_⟩ <;> split <;> omega
  · have e1 : p.Exs = [] := List.eq_nil_of_length_eq_zero (by omega)
    simp [h, e1, hl]
    by_cases hx : l = r
    · simp [hx]
      refine ⟨?_, ?_⟩ <;> split <;> omega
    · simp [hx]
end Go.Proofs.YtnchcndcinpalaaGreatDoor
