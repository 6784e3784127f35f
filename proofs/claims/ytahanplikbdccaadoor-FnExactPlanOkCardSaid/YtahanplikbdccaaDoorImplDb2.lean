/-
  THE PROGRAM's JUDGE OF TABLES, the whole.
-/
import Derived.Test.YtahanplikbdccaaDoorImplDb
import Derived.Test.YtahanplikbdccaaDoorTakes2
import Derived.BigQuiet
import Derived.Deep.DeepCutAuto
namespace Go.Proofs.YtahanplikbdccaaDoor
open Go Go.RowKit

set_option maxRecDepth 100000 in
set_option maxHeartbeats 4000000 in
theorem DbOk_calls (ts : List Tb) (g cap : Nat) (w : World) (hg : g < w.heap.size) (hn : TablesAt w g 0 ts) (hb0 : ts.length ≤ 1048576) (hsm : SmallT ts) (hT : TKw w) :
    Calls Tryd.prog 9 #[.agg #[.slice (some ⟨g, 0, none⟩) ts.length cap]] w fun e w' => e = .returned (.bool (dB (DbV ts))) ∧ Below w.heap.size w w' := by
  have HIff := hide (dbV_iff ts)
  by_cases h2 : (50 : Int) < (ts.length : Int)
  · have HE : Hid (dB (DbV ts) = false) := dB_false (fun h => by have := h.few; omega)
    clear hn hsm HIff hT
    go_enter Tryd.func9, Tryd.ntmps9
    go_wp2
    go_ret
    exact ⟨congrArg (fun z => Ending.returned (.bool z)) HE.out.symm, bA (Below.refl _ _) _⟩
  have hbul : bulkT ts ≤ 1048576 := hsm
  have HP := hide (fun W (hb : Below w.heap.size w W) => tablePlaces_calls ts g cap W (Nat.lt_of_lt_of_le hg hb.size) (hn.of hg hb) hb0 hsm)
  have HN := hide hn; have HT := hide hT
  clear hn hsm hT
  go_enter Tryd.func9, Tryd.ntmps9
  go_wp2
  go_loopw [3, 13] (fun r c wr => ∃ (k : Nat) (rw' : Int), k ≤ ts.length ∧ c = .int .i64 k ∧ r = .int .i64 rw' ∧ rw' = (sumR (ts.take k) : Int) ∧ (∀ (i : Nat) (hi : i < ts.length), i < k → TbOk ts[i]) ∧ wr.cell? ⟨w.heap.size, 0, none⟩ = some (.slice (some ⟨g, 0, none⟩) ts.length cap) ∧ w.heap.size < wr.heap.size ∧ Below w.heap.size w wr) (fun _ c _ => ts.length - (intOf c).toNat)
  case atStart => exact ⟨0, 0, Nat.zero_le _, rfl, rfl, by simp [sumR], fun i hi h => by omega, by simp [go_sem], by simp, bA (Below.refl _ _) _⟩
  case round =>
    obtain ⟨k, rv', hk, rfl, rfl, hrv, hw, ba, sa, hb⟩ := hrel
    have HW := hide hw; have HRv := hide hrv
    have hrvb : 0 ≤ rv' ∧ rv' ≤ 1048576 := by have := sumR_take_le ts k; omega
    obtain ⟨hrv0, hrv1⟩ := hrvb
    clear hw hrv
    by_cases hlt : k < ts.length
    · obtain ⟨c0, c1, G, c2, hMR⟩ := ((unhide HN).of hg hb).at k hlt
      have hbad : ¬ TbOk ts[k] → dB (DbV ts) = false := fun h => dB_false (fun hh => h (((unhide HIff).1 hh).2.1 k hlt))
      have hgood : TbOk ts[k] → ∀ (i : Nat) (hi : i < ts.length), i < k + 1 → TbOk ts[i] := fun h i hi hik => by
        by_cases e : i = k
        · subst e; exact h
        · exact unhide HW i hi (by omega)
      have hsum := sumR_take ts k hlt
      have hmem := bulkT_mem (List.getElem_mem hlt)
      have hTO := fun W (hbW : Below wr.heap.size wr W) => tableOk_calls (ts[k]).Name (ts[k]).Cols (ts[k]).Rows g G W (hMR.of hbW) (by omega) (by omega) ((unhide HT).of (bT hb hbW))
      cases e : ts[k] with | mk S C xss =>
      rw [e] at c0 c1 c2 hMR hbad hgood hsum hmem hTO
      simp only [Nat.zero_add] at c0 c1 c2 hMR hbad hgood hsum hmem hTO
      have hxl : xss.length ≤ 1048576 := by omega
      have hd : dB (TbOk ⟨S, C, xss⟩) = true ↔ TbOk ⟨S, C, xss⟩ := dB_iff
      generalize dB (TbOk ⟨S, C, xss⟩) = bT' at *
      have HTO := hide hTO; have HBad := hide hbad; have HGood := hide hgood; have HSum := hide hsum; have HD := hide hd
      have j1 : (k : Int) < (ts.length : Int) := by omega
      have q1 : g < wr.heap.size := Nat.lt_of_lt_of_le hg hb.size
      clear hTO hbad hgood hsum e hmem hMR hd
      cases bT'
      · have HE := hide (unhide HBad (fun h => by have := (unhide HD).2 h; cases this))
        go_wp2_with fail
        refine (unhide HTO _ (bA (Below.refl _ _) _)).mono ?_; rintro e w1 ⟨rfl, hb1⟩
        go_wp2
        go_ret
        exact ⟨congrArg (fun z => Ending.returned (.bool z)) (unhide HE).symm, bT (bA hb _) hb1⟩
      · have HGd := hide (unhide HGood ((unhide HD).1 (by first | rfl | trivial)))
        go_wp2_with fail
        refine (unhide HTO _ (bA (Below.refl _ _) _)).mono ?_; rintro e w1 ⟨rfl, hb1⟩
        have n2 : w1.cell? ⟨wr.heap.size, 2, none⟩ = some (.slice (some ⟨G, 0, none⟩) xss.length xss.length) := (hb1.cell (p := ⟨wr.heap.size, 2, none⟩) (by simp)).trans (by simp [go_sem])
        have ba1 : w1.cell? ⟨w.heap.size, 0, none⟩ = some (.slice (some ⟨g, 0, none⟩) ts.length cap) := (hb1.cell (p := ⟨w.heap.size, 0, none⟩) (by simp; omega)).trans ((((Below.refl wr.heap.size wr).alloc (Nat.le_refl _) _).cell (p := ⟨w.heap.size, 0, none⟩) sa).trans ba)
        have d1 := bT (bA hb _) hb1
        have s1 : wr.heap.size < w1.heap.size := by have := hb1.size; simp at this; omega
        clear hb1 ba c0 c1 c2 HTO HBad HGood HD
        go_wp2
        go_roundw
        case rel => exact ⟨k + 1, rv' + (xss.length : Int), by omega, by go_num, by first | rfl | (congr 1; omega), by have h1 := unhide HSum; have h2 := unhide HRv; omega, unhide HGd, ba1, by omega, d1⟩
        case measure => simp [intOf]; omega
    · obtain rfl : k = ts.length := by omega
      have hrv2 := unhide HRv
      rw [List.take_length] at hrv2
      by_cases hle : rv' ≤ 1000
      · have HE : Hid (∀ (D : DataW Unit), MapIn D ts ts.length → dB (DbV ts) = ((Maps.size D : Int) == (ts.length : Int))) := fun D hD => by
          rw [Bool.eq_iff_iff, dB_iff, unhide HIff]
          have := hD.all
          simp only [beq_iff_eq]
          constructor
          · intro h; have := this.2 h.2.2.2; omega
          · intro h; exact ⟨by omega, fun i hi => unhide HW i hi hi, by omega, this.1 (by omega)⟩
        clear HW HRv hrv2 HIff
        go_upto_region 11 with fail
        have RP : Hid (∀ W, Std wr W → Calls Tryd.prog 23 #[.slice (some ⟨g, 0, none⟩) ts.length cap] W fun e w' => ∃ B D, e = .returned (.map (some B)) ∧ w'.ownsMap Tryd.prog 9 (plainElem (H := Unit) Tryd.prog 3) B ts.length D ∧ MapIn D ts ts.length ∧ Below W.heap.size W w') := fun W h => unhide HP W (bT hb h.2.2)
        refine wp_region_held_drew (S := Std wr) (by kernel_rfl) (Std.drew (Std.refl _)) (fun hHeld => ?_)
        refine takeW 0 26 (.int .i64 rv') rfl rfl (by kernel_rfl) (by kernel_rfl) (by kernel_rfl) (fun _ _ _ h => h) rfl (fun wx hSw => by obtain ⟨hs1, _, _⟩ := hSw; go_simp) (by assumption) ?_
        simp only [Act.put, List.setIfInBounds_toArray, List.set_cons_succ, List.set_cons_zero]
        refine takeW 1 27 (.bool true) rfl rfl (by kernel_rfl) (by kernel_rfl) (by kernel_rfl) (fun _ _ _ h => h) rfl (fun wx hSw => by obtain ⟨hs1, _, _⟩ := hSw; go_simp) (by assumption) ?_
        simp only [Act.put, List.setIfInBounds_toArray, List.set_cons_succ, List.set_cons_zero]
        refine takeW 2 28 (.bool true) rfl rfl (by kernel_rfl) (by kernel_rfl) (by kernel_rfl) (fun _ _ _ h => h) rfl (fun wx hSw => by obtain ⟨hs1, _, _⟩ := hSw; go_simp) (by assumption) ?_
        simp only [Act.put, List.setIfInBounds_toArray, List.set_cons_succ, List.set_cons_zero]
        refine takeW 3 29 (.pointer (some ⟨w.heap.size, 0, none⟩)) rfl rfl (by kernel_rfl) (by kernel_rfl) (by kernel_rfl) (fun _ _ _ h => h) rfl (fun wx hSw => by obtain ⟨hs1, _, _⟩ := hSw; go_simp) (by assumption) ?_
        simp only [Act.put, List.setIfInBounds_toArray, List.set_cons_succ, List.set_cons_zero]
        refine takeW 4 30 (.slice (some ⟨g, 0, none⟩) ts.length cap) rfl rfl (by kernel_rfl) (by kernel_rfl) (by kernel_rfl) (fun _ _ _ h => h) rfl (fun wx hSw => by obtain ⟨hs1, _, _⟩ := hSw; go_simp) (by assumption) ?_
        simp only [Act.put, List.setIfInBounds_toArray, List.set_cons_succ, List.set_cons_zero]
        refine takeW 7 33 (.pointer (some ⟨w.heap.size, 0, none⟩)) rfl rfl (by kernel_rfl) (by kernel_rfl) (by kernel_rfl) (fun _ _ _ h => h) rfl (fun wx hSw => by obtain ⟨hs1, _, _⟩ := hSw; go_simp) (by assumption) ?_
        simp only [Act.put, List.setIfInBounds_toArray, List.set_cons_succ, List.set_cons_zero]
        refine takeW 8 34 (.slice (some ⟨g, 0, none⟩) ts.length cap) rfl rfl (by kernel_rfl) (by kernel_rfl) (by kernel_rfl) (fun _ _ _ h => h) rfl (fun wx hSw => by obtain ⟨hs1, _, _⟩ := hSw; go_simp) (by assumption) ?_
        simp only [Act.put, List.setIfInBounds_toArray, List.set_cons_succ, List.set_cons_zero]
        refine takeW 9 35 (.int .i64 (ts.length : Int)) rfl rfl (by kernel_rfl) (by kernel_rfl) (by kernel_rfl) (fun _ _ _ h => h) rfl (fun wx hSw => by obtain ⟨hs1, _, _⟩ := hSw; go_simp) (by assumption) ?_
        simp only [Act.put, List.setIfInBounds_toArray, List.set_cons_succ, List.set_cons_zero]
        refine wpAnyH_ready (rs := [5]) (by kernel_rfl) (by simp) ?_
        refine AllReadyH.cons rfl (fun Kx hK => ?_) AllReadyH.nil
        go_simp
        refine (unhide RP _ (by assumption)).mono ?_
        rintro e w2 ⟨B, D, rfl, hown, hin, hb2⟩
        refine hK.out _ _ (Std.call (by assumption) hb2) (fun hHeld2 => ?_)
        clear hK Kx
        have hlen := fun ty => hown.len Tryd.underlying55 ty
        have HE2 := hide (unhide HE D hin)
        clear HE hown hin
        refine wpAnyH_ready (rs := [6]) (by kernel_rfl) (by simp) ?_
        refine AllReadyH.cons rfl (fun Kx hK => ?_) AllReadyH.nil
        go_simp
        refine hK.out _ _ (by assumption) (fun hHeld3 => ?_)
        clear hK Kx
        refine takeW 10 36 (.bool ((Maps.size D : Int) == (ts.length : Int))) rfl rfl (by kernel_rfl) (by kernel_rfl) (by kernel_rfl) (fun _ _ _ h => h) rfl (fun wx hSw => by obtain ⟨hs1, _, _⟩ := hSw; go_simp) (by assumption) ?_
        simp only [Act.put, List.setIfInBounds_toArray, List.set_cons_succ, List.set_cons_zero]
        refine takeW 11 37 (.bool ((Maps.size D : Int) == (ts.length : Int))) rfl rfl (by kernel_rfl) (by kernel_rfl) (by kernel_rfl) (fun _ _ _ h => h) rfl (fun wx hSw => by obtain ⟨hs1, _, _⟩ := hSw; go_simp) (by assumption) ?_
        simp only [Act.put, List.setIfInBounds_toArray, List.set_cons_succ, List.set_cons_zero]
        refine takeW 12 2 (.bool ((Maps.size D : Int) == (ts.length : Int))) rfl rfl (by kernel_rfl) (by kernel_rfl) (by kernel_rfl) (fun _ _ _ h => h) rfl (fun wx hSw => by obtain ⟨hs1, _, _⟩ := hSw; go_simp) (by assumption) ?_
        simp only [Act.put, List.setIfInBounds_toArray, List.set_cons_succ, List.set_cons_zero]
        refine wpAnyH_done (by kernel_rfl) ?_ _
        go_wp2
        go_ret
        exact ⟨congrArg (fun z => Ending.returned (.bool z)) (unhide HE2).symm, bT hb hHeld3.2.2⟩
      · have HE : Hid (dB (DbV ts) = false) := dB_false (fun h => by have := ((unhide HIff).1 h).2.2.1; omega)
        clear HW HRv hrv2 HIff
        go_upto_region 11 with fail
        go_quiet (fail)
        go_wp2
        go_ret
        exact ⟨congrArg (fun z => Ending.returned (.bool z)) HE.out.symm, below_drewN hb _⟩
end Go.Proofs.YtahanplikbdccaaDoor
