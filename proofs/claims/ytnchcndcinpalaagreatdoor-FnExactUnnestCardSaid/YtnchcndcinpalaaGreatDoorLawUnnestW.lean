import Derived.Test.YtnchcndcinpalaaGreatDoorQ47
namespace Go.Proofs.YtnchcndcinpalaaGreatDoor
open Go Go.RowKit
set_option maxRecDepth 100000 in
set_option maxHeartbeats 8000000 in
theorem lawUnnest_calls (v v' : Value) (ps : List Pn) (ts : List Tb) (w : World) (hv : IsPns w v ps) (hv' : IsTables w v' ts) (hl : ps.length ≤ maxLen) (hf : FitsP ps) (hl' : ts.length ≤ maxLen) (hf' : FitsT ts) (hTT : TTakes w) (hTK : TKw w) (hTP : TPlan w) (hTF : TFlat w) (hTk : TKinds w) :
    Calls Tryz.prog 4 #[.agg #[v], .agg #[v']] w fun e w' => e = .returned (.bool true) ∧ Below w.heap.size w w' := by
  have SZ := fun W (hb : Below w.heap.size w W) => szPlan_calls v ps 1048576 W (hv.of hb) hl hf (by omega) (by omega)
  have SD := fun W (hb : Below w.heap.size w W) (left : Int) h0 h1 => szDb_calls v' ts left W (hv'.of hb) hl' hf' h0 h1
  have HV := hide hv; have HV' := hide hv'
  obtain ⟨a, cap, rfl⟩ := isPns_slice hv
  obtain ⟨a', cap', rfl⟩ := isTables_slice hv'
  clear hv hv' hl hf hl' hf'
  by_cases c1 : (1048576 : Int) < ((ps.length + bulkP ps : Nat) : Int)
  · have ez : szr 1048576 (ps.length + bulkP ps) = -1 := by unfold szr; rw [if_pos c1]
    rw [ez] at SZ
    have HS := hide SZ
    clear SZ SD ez hTK hTP hTT hTF hTk c1 HV HV'
    go_enter Tryz.func4, Tryz.ntmps4
    go_wp2_with fail
    refine (unhide HS _ (bA (bA (Below.refl _ _) _) _)).mono ?_; rintro e w1 ⟨rfl, hb1⟩
    go_wp2
    go_ret
    exact ⟨rfl, bT (bA (bA (Below.refl _ _) _) _) hb1⟩
  have ez : szr 1048576 (ps.length + bulkP ps) = 1048576 - ((ps.length + bulkP ps : Nat) : Int) := by unfold szr; rw [if_neg c1]
  rw [ez] at SZ
  obtain ⟨z1, hz1⟩ : ∃ z : Int, 1048576 - ((ps.length + bulkP ps : Nat) : Int) = z := ⟨_, rfl⟩
  rw [hz1] at SZ
  have hz0 : ¬ z1 < 0 := by omega
  have SD1 := fun W (hb : Below w.heap.size w W) => SD W hb z1 (by omega) (by omega)
  clear SD ez
  have lp : ps.length ≤ 1048576 := by omega
  have hpb : bulkP ps ≤ 1048576 := by omega
  by_cases c2 : z1 < ((ts.length + bulkT ts : Nat) : Int)
  · have ez : szr z1 (ts.length + bulkT ts) = -1 := by unfold szr; rw [if_pos c2]
    rw [ez] at SD1
    have HS := hide SZ; have HSD := hide SD1
    clear SZ SD1 ez hTK hTP hTT hTF hTk c1 c2 HV HV' hz1
    go_enter Tryz.func4, Tryz.ntmps4
    go_wp2_with fail
    refine (unhide HS _ (bA (bA (Below.refl _ _) _) _)).mono ?_; rintro e w1 ⟨rfl, hb1⟩
    have d1 := bT (bA (bA (Below.refl w.heap.size w) _) _) hb1
    have F1 : LG w.heap.size (.slice a ps.length cap) (.slice a' ts.length cap') w1 := LG.of ⟨by simp [go_sem], by simp [go_sem], by simp⟩ hb1
    clear hb1
    obtain ⟨fa, fb, fs⟩ := id F1
    go_wp2_with fail
    refine (unhide HSD _ d1).mono ?_; rintro e w2 ⟨rfl, hb2⟩
    go_wp2
    go_ret
    exact ⟨rfl, bT d1 hb2⟩
  have ez : szr z1 (ts.length + bulkT ts) = z1 - ((ts.length + bulkT ts : Nat) : Int) := by unfold szr; rw [if_neg c2]
  rw [ez] at SD1
  obtain ⟨z2, hz2⟩ : ∃ z : Int, z1 - ((ts.length + bulkT ts : Nat) : Int) = z := ⟨_, rfl⟩
  rw [hz2] at SD1
  have hz3 : ¬ z2 < 0 := by omega
  have lt : ts.length ≤ 1048576 := by omega
  have htb : bulkT ts ≤ 1048576 := by omega
  have hsm : SmallT ts := htb
  have hkb := smallT_eachF hsm
  have hkp := smallP_each hpb
  have hfit := smallP_fit hpb
  have TP := fun W (hb : Below w.heap.size w W) => toPlan_M (.slice a ps.length cap) ps W ((unhide HV).of hb) lp hkp
  have TD := fun W (hb : Below w.heap.size w W) => toDb_M (.slice a' ts.length cap') ts W ((unhide HV').of hb) lt hkb
  obtain ⟨out, Ro, E, no, hno, SA, IA, hol, hofit, hok⟩ := un_both ts ps w lt hsm lp hpb hTK hTP hTT hTF hTk
  have IB : ∀ g gt W, g < W.heap.size → PnsAt W g 0 ps → gt < W.heap.size → TablesAt W gt 0 ts → Below w.heap.size w W → Calls Tryz.prog 19 #[.agg #[.slice (some ⟨g, 0, none⟩) ps.length ps.length], .agg #[.slice (some ⟨gt, 0, none⟩) ts.length ts.length]] W fun e w' => ∃ va vc, e = .returned (.tuple #[.agg #[.slice va no vc, .int .i64 Ro], .bool E]) ∧ (∀ W', Keeps W.heap.size w' W' → IsFns W' (.slice va no vc) out) ∧ Below W.heap.size W w' := fun g gt W h1 h2 h3 h4 h5 => (IA g gt W h1 h2 h3 h4 h5).mono (by
    rintro e w' ⟨va, vc, lab, rfl, hF, hrg, hb⟩
    exact ⟨va, vc, rfl, fun W' hk => hF.keeps (fun b hb => (hrg b hb).1) hk, hb⟩)
  have EQ := fun x c x' c' W h1 h2 => eqFlat_is Ro out x x' no c c' W h1 h2 hol hofit
  have EP := fun g g' W h1 h2 h3 h4 => eqPlan_calls ps g g' ps.length ps.length W h1 h2 h3 h4 lp hkp
  have ED := fun g g' W h1 h2 h3 h4 => eqDb_calls ts g g' ts.length ts.length W h1 h2 h3 h4 lt hkb
  have hkx := kPs_le ps
  have hkt := kTs_le ts
  have MX := fun lab G W h => markPlan_calls ps lab G ps.length 1 W h lp hfit (by omega)
  have MD := fun lo B T g W h => markDb_calls ts lo B T g ts.length (1 + kPs ps) W h lt hkb (by omega)
  have MG := fun lab v W h => markFlat_own out Ro lab v 1 W h hol hofit hok
  have HG := fun v W h => heldFlat_calls out v Ro 1 W h hol hofit hok
  obtain ⟨k1, hk1⟩ : ∃ k, 1 + kPs ps = k := ⟨_, rfl⟩
  rw [hk1] at MX MD
  obtain ⟨k2, hk2⟩ : ∃ k, k1 + kTs ts = k := ⟨_, rfl⟩
  rw [hk2] at MD
  obtain ⟨m1, hm1⟩ : ∃ k, 1 + kNs out = k := ⟨_, rfl⟩
  rw [hm1] at MG HG
  have hq0 : ¬ (k2 : Int) < 0 := by omega
  have hq1 : ¬ (m1 : Int) < 0 := by omega
  have hq2 : ((m1 : Int) != (m1 : Int)) = false := by simp
  have hnE : (E != E) = false := by simp
  have HSZ := hide SZ; have HSD := hide SD1; have HTP := hide TP; have HTD := hide TD; have HSA := hide SA; have HIA := hide IA; have HIB := hide IB; have HEQ := hide EQ; have HEP := hide EP; have HED := hide ED; have HMX := hide MX; have HMD := hide MD; have HMG := hide MG; have HHG := hide HG
  clear SZ SD1 TP TD SA IA IB EQ EP ED MX MD MG HG hsm hkb hkp hfit ez hz1 hz2 hTK hTP hTT hTF hTk c1 c2 HV HV' hpb hol hofit hok hno hkx hkt hk1 hk2 hm1 htb
  go_enter Tryz.func4, Tryz.ntmps4
  go_wp2_with fail
  refine (unhide HSZ _ (bA (bA (Below.refl _ _) _) _)).mono ?_; rintro e w1 ⟨rfl, hb1⟩
  have d1 := bT (bA (bA (Below.refl w.heap.size w) _) _) hb1
  have F1 : LG w.heap.size (.slice a ps.length cap) (.slice a' ts.length cap') w1 := LG.of ⟨by simp [go_sem], by simp [go_sem], by simp⟩ hb1
  clear hb1 HSZ
  obtain ⟨fa, fb, fs⟩ := id F1
  go_wp2_with fail
  refine (unhide HSD _ d1).mono ?_; rintro e w2 ⟨rfl, hb2⟩
  have d2 := bT d1 hb2
  have F2 := F1.of hb2
  clear hb2 fa fb fs F1 d1 HSD
  obtain ⟨fa, fb, fs⟩ := id F2
  have fs0 : w.heap.size < w2.heap.size := by omega
  go_upto_region 8 with fail
  go_cut [6, 7] (fun s6 s7 wx => ∃ X xa xc, s6 = .pointer (some ⟨X, 0, none⟩) ∧ s7 = .bool E ∧ BoxF wx X (.slice xa no xc) Ro out ∧ Below w2.heap.size w2 wx)
  case first =>
    refine wp_region_held_drew (S := Std w2) (by kernel_rfl) (Std.drew (Std.refl _)) (fun hHeld0 => ?_)
    refine tW 0 28 (.agg #[.slice a ps.length cap]) ?_
    simp only [puts]
    refine tW 2 30 (.agg #[.slice a' ts.length cap']) ?_
    simp only [puts]
    refine wpAnyH_ready (rs := [1, 8]) (by kernel_rfl) (by simp) ?_
    refine AllReadyH.cons rfl (fun Kx hK => ?_) (AllReadyH.cons rfl (fun Kx hK => ?_) AllReadyH.nil)
    rotate_left
    · skip
      go_simp
      refine hK.out _ _ (Std.alloc (by assumption) _) (fun hHeld1 => ?_)
      clear hK Kx
      have bx0 : (w2.alloc (.cells #[.slice none 0 0, .int .i64 0] 32)).drew.cell? ⟨w2.heap.size, 0, none⟩ = some (.slice none 0 0) := by simp [go_sem]
      have bx1 : (w2.alloc (.cells #[.slice none 0 0, .int .i64 0] 32)).drew.cell? ⟨w2.heap.size, 1, none⟩ = some (.int .i64 0) := by simp [go_sem]
      have bxf : ∀ o, (w2.alloc (.cells #[.slice none 0 0, .int .i64 0] 32)).drew.frozen? ⟨w2.heap.size, o, none⟩ = false := fun o => by simp [go_sem]
      have bxs : w2.heap.size < (w2.alloc (.cells #[.slice none 0 0, .int .i64 0] 32)).drew.heap.size := by simp
      have bxl : w2.heap.size ≤ w2.heap.size := by first | exact Nat.le_refl _ | exact hHeld0.2.2.size
      refine wpAnyH_ready (rs := [1]) (by kernel_rfl) (by simp) ?_
      refine AllReadyH.cons rfl (fun Kx hK => ?_) AllReadyH.nil
      go_simp
      refine (unhide HTP _ (bT d2 hHeld1.2.2)).mono ?_
      rintro e v2 ⟨gp, -, rfl, -, hgs, hgn, -, -, hbx⟩
      have bx0 := (hbx.cell (p := ⟨w2.heap.size, 0, none⟩) bxs).trans bx0
      have bx1 := (hbx.cell (p := ⟨w2.heap.size, 1, none⟩) bxs).trans bx1
      have bxf := fun o => (hbx.frozen (p := ⟨w2.heap.size, o, none⟩) bxs).trans (bxf o)
      have bxs0 := bxs
      have bxs := Nat.lt_of_lt_of_le bxs hbx.size
      refine hK.out _ _ (Std.call (by assumption) hbx) (fun hHeld2 => ?_)
      clear hK Kx hbx
      refine wpAnyH_ready (rs := [3]) (by kernel_rfl) (by simp) ?_
      refine AllReadyH.cons rfl (fun Kx hK => ?_) AllReadyH.nil
      go_simp
      refine (unhide HTD _ (bT d2 hHeld2.2.2)).mono ?_
      rintro e v3 ⟨gd, -, rfl, -, hds, hdn, -, hbx⟩
      have hgn := hgn.of hgs hbx; have hgs := Nat.lt_of_lt_of_le hgs hbx.size
      have bx0 := (hbx.cell (p := ⟨w2.heap.size, 0, none⟩) bxs).trans bx0
      have bx1 := (hbx.cell (p := ⟨w2.heap.size, 1, none⟩) bxs).trans bx1
      have bxf := fun o => (hbx.frozen (p := ⟨w2.heap.size, o, none⟩) bxs).trans (bxf o)
      have bxs0 := bxs
      have bxs := Nat.lt_of_lt_of_le bxs hbx.size
      refine hK.out _ _ (Std.call (by assumption) hbx) (fun hHeld3 => ?_)
      clear hK Kx hbx
      refine wpAnyH_ready (rs := [4]) (by kernel_rfl) (by simp) ?_
      refine AllReadyH.cons rfl (fun Kx hK => ?_) AllReadyH.nil
      go_simp
      refine (unhide HSA gp gd _ hgs hgn hds hdn (bT d2 hHeld3.2.2)).mono ?_
      rintro e v4 ⟨va, vc, rfl, hkp, hbx⟩
      have HV5 := hide hkp
      have bx0 := (hbx.cell (p := ⟨w2.heap.size, 0, none⟩) bxs).trans bx0
      have bx1 := (hbx.cell (p := ⟨w2.heap.size, 1, none⟩) bxs).trans bx1
      have bxf := fun o => (hbx.frozen (p := ⟨w2.heap.size, o, none⟩) bxs).trans (bxf o)
      have bxs0 := bxs
      have bxs := Nat.lt_of_lt_of_le bxs hbx.size
      refine hK.out _ _ (Std.call (by assumption) hbx) (fun hHeld4 => ?_)
      clear hK Kx hbx hkp hgn hdn
      refine tW 5 27 (.tuple #[.agg #[.slice va no vc, .int .i64 Ro], .bool E]) ?_
      simp only [puts]
      refine tW 6 33 (.agg #[.slice va no vc, .int .i64 Ro]) ?_
      simp only [puts]
      refine tW 7 34 (.bool E) ?_
      simp only [puts]
      refine wpAnyH_ready (rs := [9]) (by kernel_rfl) (by simp) ?_
      refine AllReadyH.cons rfl (fun Kx hK => ?_) AllReadyH.nil
      go_simp
      refine hK.out _ _ ?_ (fun hHeld5 => ?_)
      · first | exact Std.setCell (Std.setCell (by assumption) (by dsimp only; omega) _) (by dsimp only; omega) _ | exact Std.alloc (by assumption) _ | (repeat (first | with_reducible assumption | with_reducible exact Std.refl _ | with_reducible refine Std.drew ?_ | with_reducible refine Std.alloc ?_ _ | with_reducible refine Std.setCell ?_ ?_ _ | with_reducible refine Std.call ?_ (by with_reducible assumption) | (simp <;> omega) | omega))
      clear hK Kx
      refine tW 10 7 (.bool E) ?_
      simp only [puts]
      refine wpAnyH_done (by kernel_rfl) ?_ _
      go_wp2_with fail
      go_meet
      first | exact ⟨_, va, vc, rfl, rfl, box_leaf1 (unhide HV5) bxs0 bx0 bx1 bxs, hHeld5.2.2⟩ | exact ⟨_, va, vc, rfl, rfl, box_leaf2 (unhide HV5), hHeld5.2.2⟩
    · skip
      go_simp
      refine (unhide HTP _ (bT d2 hHeld0.2.2)).mono ?_
      rintro e v6 ⟨gp, -, rfl, -, hgs, hgn, -, -, hbx⟩
      refine hK.out _ _ (Std.call (by assumption) hbx) (fun hHeld6 => ?_)
      clear hK Kx hbx
      refine wpAnyH_ready (rs := [3, 8]) (by kernel_rfl) (by simp) ?_
      refine AllReadyH.cons rfl (fun Kx hK => ?_) (AllReadyH.cons rfl (fun Kx hK => ?_) AllReadyH.nil)
      rotate_left
      · skip
        go_simp
        refine hK.out _ _ (Std.alloc (by assumption) _) (fun hHeld7 => ?_)
        clear hK Kx
        have bx0 : (v6.alloc (.cells #[.slice none 0 0, .int .i64 0] 32)).cell? ⟨v6.heap.size, 0, none⟩ = some (.slice none 0 0) := by simp [go_sem]
        have bx1 : (v6.alloc (.cells #[.slice none 0 0, .int .i64 0] 32)).cell? ⟨v6.heap.size, 1, none⟩ = some (.int .i64 0) := by simp [go_sem]
        have bxf : ∀ o, (v6.alloc (.cells #[.slice none 0 0, .int .i64 0] 32)).frozen? ⟨v6.heap.size, o, none⟩ = false := fun o => by simp [go_sem]
        have bxs : v6.heap.size < (v6.alloc (.cells #[.slice none 0 0, .int .i64 0] 32)).heap.size := by simp
        have bxl : w2.heap.size ≤ v6.heap.size := by first | exact Nat.le_refl _ | exact hHeld6.2.2.size
        have hgn := hgn.of hgs (bA (Below.refl _ _) (.cells #[.slice none 0 0, .int .i64 0] 32)); have hgs : gp < (v6.alloc (.cells #[.slice none 0 0, .int .i64 0] 32)).heap.size := by simp; omega
        refine wpAnyH_ready (rs := [3]) (by kernel_rfl) (by simp) ?_
        refine AllReadyH.cons rfl (fun Kx hK => ?_) AllReadyH.nil
        go_simp
        refine (unhide HTD _ (bT d2 hHeld7.2.2)).mono ?_
        rintro e v8 ⟨gd, -, rfl, -, hds, hdn, -, hbx⟩
        have hgn := hgn.of hgs hbx; have hgs := Nat.lt_of_lt_of_le hgs hbx.size
        have bx0 := (hbx.cell (p := ⟨v6.heap.size, 0, none⟩) bxs).trans bx0
        have bx1 := (hbx.cell (p := ⟨v6.heap.size, 1, none⟩) bxs).trans bx1
        have bxf := fun o => (hbx.frozen (p := ⟨v6.heap.size, o, none⟩) bxs).trans (bxf o)
        have bxs0 := bxs
        have bxs := Nat.lt_of_lt_of_le bxs hbx.size
        refine hK.out _ _ (Std.call (by assumption) hbx) (fun hHeld8 => ?_)
        clear hK Kx hbx
        refine wpAnyH_ready (rs := [4]) (by kernel_rfl) (by simp) ?_
        refine AllReadyH.cons rfl (fun Kx hK => ?_) AllReadyH.nil
        go_simp
        refine (unhide HSA gp gd _ hgs hgn hds hdn (bT d2 hHeld8.2.2)).mono ?_
        rintro e v9 ⟨va, vc, rfl, hkp, hbx⟩
        have HV5 := hide hkp
        have bx0 := (hbx.cell (p := ⟨v6.heap.size, 0, none⟩) bxs).trans bx0
        have bx1 := (hbx.cell (p := ⟨v6.heap.size, 1, none⟩) bxs).trans bx1
        have bxf := fun o => (hbx.frozen (p := ⟨v6.heap.size, o, none⟩) bxs).trans (bxf o)
        have bxs0 := bxs
        have bxs := Nat.lt_of_lt_of_le bxs hbx.size
        refine hK.out _ _ (Std.call (by assumption) hbx) (fun hHeld9 => ?_)
        clear hK Kx hbx hkp hgn hdn
        refine tW 5 27 (.tuple #[.agg #[.slice va no vc, .int .i64 Ro], .bool E]) ?_
        simp only [puts]
        refine tW 6 33 (.agg #[.slice va no vc, .int .i64 Ro]) ?_
        simp only [puts]
        refine tW 7 34 (.bool E) ?_
        simp only [puts]
        refine wpAnyH_ready (rs := [9]) (by kernel_rfl) (by simp) ?_
        refine AllReadyH.cons rfl (fun Kx hK => ?_) AllReadyH.nil
        go_simp
        refine hK.out _ _ ?_ (fun hHeld10 => ?_)
        · first | exact Std.setCell (Std.setCell (by assumption) (by dsimp only; omega) _) (by dsimp only; omega) _ | exact Std.alloc (by assumption) _ | (repeat (first | with_reducible assumption | with_reducible exact Std.refl _ | with_reducible refine Std.drew ?_ | with_reducible refine Std.alloc ?_ _ | with_reducible refine Std.setCell ?_ ?_ _ | with_reducible refine Std.call ?_ (by with_reducible assumption) | (simp <;> omega) | omega))
        clear hK Kx
        refine tW 10 7 (.bool E) ?_
        simp only [puts]
        refine wpAnyH_done (by kernel_rfl) ?_ _
        go_wp2_with fail
        go_meet
        first | exact ⟨_, va, vc, rfl, rfl, box_leaf1 (unhide HV5) bxs0 bx0 bx1 bxs, hHeld10.2.2⟩ | exact ⟨_, va, vc, rfl, rfl, box_leaf2 (unhide HV5), hHeld10.2.2⟩
      · skip
        go_simp
        refine (unhide HTD _ (bT d2 hHeld6.2.2)).mono ?_
        rintro e v11 ⟨gd, -, rfl, -, hds, hdn, -, hbx⟩
        have hgn := hgn.of hgs hbx; have hgs := Nat.lt_of_lt_of_le hgs hbx.size
        refine hK.out _ _ (Std.call (by assumption) hbx) (fun hHeld11 => ?_)
        clear hK Kx hbx
        refine wpAnyH_ready (rs := [4, 8]) (by kernel_rfl) (by simp) ?_
        refine AllReadyH.cons rfl (fun Kx hK => ?_) (AllReadyH.cons rfl (fun Kx hK => ?_) AllReadyH.nil)
        rotate_left
        · skip
          go_simp
          refine hK.out _ _ (Std.alloc (by assumption) _) (fun hHeld12 => ?_)
          clear hK Kx
          have bx0 : (v11.alloc (.cells #[.slice none 0 0, .int .i64 0] 32)).cell? ⟨v11.heap.size, 0, none⟩ = some (.slice none 0 0) := by simp [go_sem]
          have bx1 : (v11.alloc (.cells #[.slice none 0 0, .int .i64 0] 32)).cell? ⟨v11.heap.size, 1, none⟩ = some (.int .i64 0) := by simp [go_sem]
          have bxf : ∀ o, (v11.alloc (.cells #[.slice none 0 0, .int .i64 0] 32)).frozen? ⟨v11.heap.size, o, none⟩ = false := fun o => by simp [go_sem]
          have bxs : v11.heap.size < (v11.alloc (.cells #[.slice none 0 0, .int .i64 0] 32)).heap.size := by simp
          have bxl : w2.heap.size ≤ v11.heap.size := by first | exact Nat.le_refl _ | exact hHeld11.2.2.size
          have hgn := hgn.of hgs (bA (Below.refl _ _) (.cells #[.slice none 0 0, .int .i64 0] 32)); have hgs : gp < (v11.alloc (.cells #[.slice none 0 0, .int .i64 0] 32)).heap.size := by simp; omega
          have hdn := hdn.of hds (bA (Below.refl _ _) (.cells #[.slice none 0 0, .int .i64 0] 32)); have hds : gd < (v11.alloc (.cells #[.slice none 0 0, .int .i64 0] 32)).heap.size := by simp; omega
          refine wpAnyH_ready (rs := [4]) (by kernel_rfl) (by simp) ?_
          refine AllReadyH.cons rfl (fun Kx hK => ?_) AllReadyH.nil
          go_simp
          refine (unhide HSA gp gd _ hgs hgn hds hdn (bT d2 hHeld12.2.2)).mono ?_
          rintro e v13 ⟨va, vc, rfl, hkp, hbx⟩
          have HV5 := hide hkp
          have bx0 := (hbx.cell (p := ⟨v11.heap.size, 0, none⟩) bxs).trans bx0
          have bx1 := (hbx.cell (p := ⟨v11.heap.size, 1, none⟩) bxs).trans bx1
          have bxf := fun o => (hbx.frozen (p := ⟨v11.heap.size, o, none⟩) bxs).trans (bxf o)
          have bxs0 := bxs
          have bxs := Nat.lt_of_lt_of_le bxs hbx.size
          refine hK.out _ _ (Std.call (by assumption) hbx) (fun hHeld13 => ?_)
          clear hK Kx hbx hkp hgn hdn
          refine tW 5 27 (.tuple #[.agg #[.slice va no vc, .int .i64 Ro], .bool E]) ?_
          simp only [puts]
          refine tW 6 33 (.agg #[.slice va no vc, .int .i64 Ro]) ?_
          simp only [puts]
          refine tW 7 34 (.bool E) ?_
          simp only [puts]
          refine wpAnyH_ready (rs := [9]) (by kernel_rfl) (by simp) ?_
          refine AllReadyH.cons rfl (fun Kx hK => ?_) AllReadyH.nil
          go_simp
          refine hK.out _ _ ?_ (fun hHeld14 => ?_)
          · first | exact Std.setCell (Std.setCell (by assumption) (by dsimp only; omega) _) (by dsimp only; omega) _ | exact Std.alloc (by assumption) _ | (repeat (first | with_reducible assumption | with_reducible exact Std.refl _ | with_reducible refine Std.drew ?_ | with_reducible refine Std.alloc ?_ _ | with_reducible refine Std.setCell ?_ ?_ _ | with_reducible refine Std.call ?_ (by with_reducible assumption) | (simp <;> omega) | omega))
          clear hK Kx
          refine tW 10 7 (.bool E) ?_
          simp only [puts]
          refine wpAnyH_done (by kernel_rfl) ?_ _
          go_wp2_with fail
          go_meet
          first | exact ⟨_, va, vc, rfl, rfl, box_leaf1 (unhide HV5) bxs0 bx0 bx1 bxs, hHeld14.2.2⟩ | exact ⟨_, va, vc, rfl, rfl, box_leaf2 (unhide HV5), hHeld14.2.2⟩
        · skip
          go_simp
          refine (unhide HSA gp gd _ hgs hgn hds hdn (bT d2 hHeld11.2.2)).mono ?_
          rintro e v15 ⟨va, vc, rfl, hkp, hbx⟩
          have HV5 := hide hkp
          refine hK.out _ _ (Std.call (by assumption) hbx) (fun hHeld15 => ?_)
          clear hK Kx hbx hkp hgn hdn
          refine tW 5 27 (.tuple #[.agg #[.slice va no vc, .int .i64 Ro], .bool E]) ?_
          simp only [puts]
          refine tW 6 33 (.agg #[.slice va no vc, .int .i64 Ro]) ?_
          simp only [puts]
          refine tW 7 34 (.bool E) ?_
          simp only [puts]
          refine wpAnyH_ready (rs := [8]) (by kernel_rfl) (by simp) ?_
          refine AllReadyH.cons rfl (fun Kx hK => ?_) AllReadyH.nil
          go_simp
          refine hK.out _ _ (Std.alloc (by assumption) _) (fun hHeld16 => ?_)
          clear hK Kx
          have bx0 : (v15.alloc (.cells #[.slice none 0 0, .int .i64 0] 32)).cell? ⟨v15.heap.size, 0, none⟩ = some (.slice none 0 0) := by simp [go_sem]
          have bx1 : (v15.alloc (.cells #[.slice none 0 0, .int .i64 0] 32)).cell? ⟨v15.heap.size, 1, none⟩ = some (.int .i64 0) := by simp [go_sem]
          have bxf : ∀ o, (v15.alloc (.cells #[.slice none 0 0, .int .i64 0] 32)).frozen? ⟨v15.heap.size, o, none⟩ = false := fun o => by simp [go_sem]
          have bxs : v15.heap.size < (v15.alloc (.cells #[.slice none 0 0, .int .i64 0] 32)).heap.size := by simp
          have bxl : w2.heap.size ≤ v15.heap.size := by first | exact Nat.le_refl _ | exact hHeld15.2.2.size
          have HV5 := HV5
          refine wpAnyH_ready (rs := [9]) (by kernel_rfl) (by simp) ?_
          refine AllReadyH.cons rfl (fun Kx hK => ?_) AllReadyH.nil
          go_simp
          refine hK.out _ _ ?_ (fun hHeld17 => ?_)
          · first | exact Std.setCell (Std.setCell (by assumption) (by dsimp only; omega) _) (by dsimp only; omega) _ | exact Std.alloc (by assumption) _ | (repeat (first | with_reducible assumption | with_reducible exact Std.refl _ | with_reducible refine Std.drew ?_ | with_reducible refine Std.alloc ?_ _ | with_reducible refine Std.setCell ?_ ?_ _ | with_reducible refine Std.call ?_ (by with_reducible assumption) | (simp <;> omega) | omega))
          clear hK Kx
          refine tW 10 7 (.bool E) ?_
          simp only [puts]
          refine wpAnyH_done (by kernel_rfl) ?_ _
          go_wp2_with fail
          go_meet
          first | exact ⟨_, va, vc, rfl, rfl, box_leaf1 (unhide HV5) bxs0 bx0 bx1 bxs, hHeld17.2.2⟩ | exact ⟨_, va, vc, rfl, rfl, box_leaf2 (unhide HV5), hHeld17.2.2⟩
  case rest =>
    obtain ⟨X6, va, vc, rfl, rfl, hB6, hL6⟩ := hcut
    have d5 := bT d2 hL6
    have F5 := F2.of hL6
    have HB6 := hide hB6; have HF5 := hide F5; have HD5 := hide d5
    clear fa fb fs fs0 F2 d2 hL6 hB6 HSA
    obtain ⟨fa, fb, fs⟩ := id F5
    have fs0 : w.heap.size < wc.heap.size := by omega
    go_wp2_with fail
    refine (unhide HTP _ d5).mono ?_; rintro e w6 ⟨g0, labx, rfl, hg0, hs0, hn0, hFx, hrx, hb6⟩
    have d6 := bT d5 hb6
    have F6 := F5.of hb6
    clear fa fb fs fs0 F5 d5 hg0
    obtain ⟨fa, fb, fs⟩ := id F6
    have fs0 : w.heap.size < w6.heap.size := by omega
    go_wp2_with fail
    refine (unhide HTD _ (bA d6 _)).mono ?_; rintro e w7 ⟨g1, lo, rfl, hg1, hs1, hn1, hDm, hb7⟩
    have d7 := bT (bA d6 _) hb7
    have F7 := (F6.of (bA (Below.refl _ _) _)).of hb7
    have bx0 : w7.cell? ⟨w6.heap.size, 0, none⟩ = some (.slice (some ⟨g0, 0, none⟩) ps.length ps.length) := (hb7.cell (p := ⟨w6.heap.size, 0, none⟩) (by simp)).trans (by simp [go_sem])
    have sx0 : w6.heap.size < w7.heap.size := (by have := hb7.size; simp at this; omega)
    have q67 := bT (bA (Below.refl w6.heap.size w6) (.cells #[.slice (some ⟨g0, 0, none⟩) ps.length ps.length] 52)) hb7
    have hn7 := hn0.of hs0 q67
    have hs7 : g0 < w7.heap.size := by omega
    have HFx7 := hide (hFx.of q67)
    have L67 := bT hb6 q67
    have HL67 := hide L67
    have s56 : wc.heap.size ≤ w6.heap.size := hb6.size
    have hdm : DbM w7 lo (w6.heap.size + 4) w7.heap.size g1 ts := by
      have h' := hDm
      rw [show (w6.alloc (.cells #[.slice (some ⟨g0, 0, none⟩) ps.length ps.length] 52)).heap.size + 3 = w6.heap.size + 4 by simp] at h'
      exact h'
    have HDm := hide hdm; have HRx := hide hrx
    clear hb6 hb7 fa fb fs fs0 F6 d6 hn0 hg1 hFx q67 L67 hDm hdm hrx
    obtain ⟨B0, hB0⟩ : ∃ B0, w6.heap.size = B0 := ⟨_, rfl⟩
    rw [hB0] at bx0 sx0 HDm HRx s56
    rw [hB0]
    clear hB0 hs0
    have HN7 := hide hn7; have HN1 := hide hn1
    clear hn7 hn1
    obtain ⟨fa, fb, fs⟩ := id F7
    have fs0 : w.heap.size < w7.heap.size := by omega
    go_wp2_with fail
    refine (unhide HIA g0 g1 _ (by simp; omega) ((unhide HN7).of hs7 (bA (Below.refl _ _) _)) (by simp; omega) ((unhide HN1).of hs1 (bA (Below.refl _ _) _)) (bA d7 _)).mono ?_; rintro e w8 ⟨vb, vd, labg, rfl, hOg, hrg, hb8⟩
    have q8 := bT (bA (Below.refl w7.heap.size w7) (.cells #[.slice (some ⟨g1, 0, none⟩) ts.length ts.length] 38)) hb8
    have bx1 : w8.cell? ⟨w7.heap.size, 0, none⟩ = some (.slice (some ⟨g1, 0, none⟩) ts.length ts.length) := (hb8.cell (p := ⟨w7.heap.size, 0, none⟩) (by simp)).trans (by simp [go_sem])
    have sx1 : w7.heap.size < w8.heap.size := (by have := hb8.size; simp at this; omega)
    have q9 := bT q8 (bA (Below.refl w8.heap.size w8) (.cells #[.slice vb no vd, .int .i64 Ro] 32))
    have hL : LS wc (w8.alloc (.cells #[.slice vb no vd, .int .i64 Ro] 32)) ps.length ts.length Ro B0 w7.heap.size w8.heap.size g0 g1 (B0 + 4) w7.heap.size labx labg (.slice vb no vd) :=
      ⟨bT (unhide HL67) q9, (q9.cell (p := ⟨B0, 0, none⟩) sx0).trans bx0, ((bA (Below.refl w8.heap.size w8) _).cell (p := ⟨w7.heap.size, 0, none⟩) sx1).trans bx1, by simp [go_sem], by simp [go_sem], s56, sx0, sx1, by simp, fun b hb => ⟨by have := unhide HRx b hb; omega, (unhide HRx b hb).2⟩, ⟨by omega, Nat.le_refl _⟩, fun b hb => ⟨by have := (hrg b hb).1; simp at this; omega, (hrg b hb).2⟩⟩
    have HL := hide hL
    have HOg := hide (hOg.of (bA (Below.refl w8.heap.size w8) (.cells #[.slice vb no vd, .int .i64 Ro] 32)))
    have HFx := hide ((unhide HFx7).of q9)
    have HDm := hide ((unhide HDm).of q9)
    have HTb := hide ((unhide HN1).of hs1 q9)
    have HPb := hide ((unhide HN7).of hs7 q9)
    have HE1 := hide (unhide HEQ vb vd va vc _ (unhide HOg).is ((unhide HB6).of hL.low).is)
    have kb0 := ((unhide HB6).of hL.low).c0
    have kb1 := ((unhide HB6).of hL.low).c1
    have kbs : X6 < w8.heap.size + 1 := by have := ((unhide HB6).of hL.low).sz; simpa using this
    clear hL hOg hrg hb8 q8 q9 fa fb fs fs0 F7 d7 HN7 HN1 bx0 sx0 bx1 HL67 HRx HFx7
    go_wp2_with fail
    refine (unhide HE1).mono ?_; rintro e w9 ⟨rfl, hb9⟩
    have ht1 : g1 < (w8.alloc (.cells #[.slice vb no vd, .int .i64 Ro] 32)).heap.size := by simp; omega
    replace HL := hide ((unhide HL).of hb9)
    replace HOg := hide ((unhide HOg).of hb9)
    replace HFx := hide ((unhide HFx).of hb9)
    replace HDm := hide ((unhide HDm).of hb9)
    have hp1 : g0 < (w8.alloc (.cells #[.slice vb no vd, .int .i64 Ro] 32)).heap.size := by simp; omega
    replace HPb := hide ((unhide HPb).of hp1 hb9)
    replace hp1 := Nat.lt_of_lt_of_le hp1 (Below.size hb9)
    replace HTb := hide ((unhide HTb).of ht1 hb9)
    replace ht1 := Nat.lt_of_lt_of_le ht1 (Below.size hb9)
    clear hb9 HE1 kb0 kb1 kbs hs1 hs7 sx1 s56
    obtain ⟨B1, hB1⟩ : ∃ B1, w7.heap.size = B1 := ⟨_, rfl⟩
    obtain ⟨B2, hB2⟩ : ∃ B2, w8.heap.size = B2 := ⟨_, rfl⟩
    rw [hB1] at HL HDm
    rw [hB2] at HL
    rw [hB1, hB2]
    clear hB1 hB2
    have kL := unhide HL
    have l0 := kL.x0
    have l1 := kL.x1
    have l2 := kL.x2
    have l2r := kL.x2r
    have kb0 := ((unhide HB6).of kL.low).c0
    have kb1 := ((unhide HB6).of kL.low).c1
    have kbs := ((unhide HB6).of kL.low).sz
    have fa := ((unhide HF5).of kL.low).a
    have fb := ((unhide HF5).of kL.low).b
    have fs := ((unhide HF5).of kL.low).sz
    have fs0 : w.heap.size < w9.heap.size := by have := ((unhide HF5).of kL.low).sz; omega
    have p2 : B2 < w9.heap.size := kL.o4
    have p1 : B1 < w9.heap.size := by have := kL.o4; have := kL.o3; omega
    have p0 : B0 < w9.heap.size := by have := kL.o4; have := kL.o3; have := kL.o2; omega
    have dd := bT (unhide HD5) kL.low
    clear kL
    go_upto_region 14 with fail
    have RT : Hid (∀ W, Std w9 W → Calls Tryz.prog 18 #[.agg #[.slice a ps.length cap]] W fun e w' => ∃ g, e = .returned (.agg #[.slice (some ⟨g, 0, none⟩) ps.length ps.length]) ∧ g < w'.heap.size ∧ PnsAt w' g 0 ps ∧ Below W.heap.size W w') := fun W h => (unhide HTP W (bT dd h.2.2)).mono (by rintro e w' ⟨g, lab, rfl, _, h1, h2, _, _, hb⟩; exact ⟨g, rfl, h1, h2, hb⟩)
    have RE : Hid (∀ W g', Std w9 W → g' < W.heap.size → PnsAt W g' 0 ps → Calls Tryz.prog 20 #[.agg #[.slice (some ⟨g0, 0, none⟩) ps.length ps.length], .agg #[.slice (some ⟨g', 0, none⟩) ps.length ps.length]] W fun e w' => e = .returned (.bool true) ∧ Below W.heap.size W w') := fun W g' h h1 h2 => unhide HEP g0 g' W (Nat.lt_of_lt_of_le hp1 h.2.2.size) h1 ((unhide HPb).of hp1 h.2.2) h2
    go_region_held3 (Std w9) (repeat (first | with_reducible assumption | with_reducible exact Std.refl _ | with_reducible refine Std.drew ?_ | with_reducible refine Std.alloc ?_ _ | with_reducible refine Std.setCell ?_ ?_ _ | with_reducible refine Std.call ?_ (by with_reducible assumption) | (simp <;> omega) | omega)) (first
      | (go_at_call 18; refine (unhide RT _ (by assumption)).mono ?_; rintro e w10 ⟨g9, rfl, hs9, hn9, hb9⟩)
      | (go_at_call 20; refine (unhide RE _ _ (by assumption) (by assumption) (by assumption)).mono ?_; rintro e w11 ⟨rfl, hb10⟩))
    have hS : Std w9 w11 := by assumption
    replace HL := hide ((unhide HL).of hS.2.2)
    replace HOg := hide ((unhide HOg).of hS.2.2)
    replace HFx := hide ((unhide HFx).of hS.2.2)
    replace HDm := hide ((unhide HDm).of hS.2.2)
    replace HTb := hide ((unhide HTb).of ht1 hS.2.2)
    replace ht1 := Nat.lt_of_lt_of_le ht1 (Below.size hS.2.2)
    clear hS RT RE hs9 hn9 hb9 hb10 HPb hp1
    try clear hHeld
    have kL := unhide HL
    replace l0 := kL.x0
    replace l1 := kL.x1
    replace l2 := kL.x2
    replace l2r := kL.x2r
    replace kb0 := ((unhide HB6).of kL.low).c0
    replace kb1 := ((unhide HB6).of kL.low).c1
    replace kbs := ((unhide HB6).of kL.low).sz
    replace fa := ((unhide HF5).of kL.low).a
    replace fb := ((unhide HF5).of kL.low).b
    replace fs := ((unhide HF5).of kL.low).sz
    replace dd := bT (unhide HD5) kL.low
    replace fs0 : w.heap.size < w11.heap.size := by have := fs; omega
    replace p2 : B2 < w11.heap.size := kL.o4
    replace p1 : B1 < w11.heap.size := by have := kL.o4; have := kL.o3; omega
    replace p0 : B0 < w11.heap.size := by have := kL.o4; have := kL.o3; have := kL.o2; omega
    clear kL
    go_upto_region 16 with fail
    have RT : Hid (∀ W, Std w11 W → Calls Tryz.prog 9 #[.agg #[.slice a' ts.length cap']] W fun e w' => ∃ g, e = .returned (.agg #[.slice (some ⟨g, 0, none⟩) ts.length ts.length]) ∧ g < w'.heap.size ∧ TablesAt w' g 0 ts ∧ Below W.heap.size W w') := fun W h => (unhide HTD W (bT dd h.2.2)).mono (by rintro e w' ⟨g, lo, rfl, _, h1, h2, _, hb⟩; exact ⟨g, rfl, h1, h2, hb⟩)
    have RE : Hid (∀ W g', Std w11 W → g' < W.heap.size → TablesAt W g' 0 ts → Calls Tryz.prog 12 #[.agg #[.slice (some ⟨g1, 0, none⟩) ts.length ts.length], .agg #[.slice (some ⟨g', 0, none⟩) ts.length ts.length]] W fun e w' => e = .returned (.bool true) ∧ Below W.heap.size W w') := fun W g' h h1 h2 => unhide HED g1 g' W (Nat.lt_of_lt_of_le ht1 h.2.2.size) h1 ((unhide HTb).of ht1 h.2.2) h2
    go_region_held3 (Std w11) (repeat (first | with_reducible assumption | with_reducible exact Std.refl _ | with_reducible refine Std.drew ?_ | with_reducible refine Std.alloc ?_ _ | with_reducible refine Std.setCell ?_ ?_ _ | with_reducible refine Std.call ?_ (by with_reducible assumption) | (simp <;> omega) | omega)) (first
      | (go_at_call 9; refine (unhide RT _ (by assumption)).mono ?_; rintro e w12 ⟨g9, rfl, hs9, hn9, hb9⟩)
      | (go_at_call 12; refine (unhide RE _ _ (by assumption) (by assumption) (by assumption)).mono ?_; rintro e w13 ⟨rfl, hb10⟩))
    have hS : Std w11 w13 := by assumption
    replace HL := hide ((unhide HL).of hS.2.2)
    replace HOg := hide ((unhide HOg).of hS.2.2)
    replace HFx := hide ((unhide HFx).of hS.2.2)
    replace HDm := hide ((unhide HDm).of hS.2.2)
    replace HTb := hide ((unhide HTb).of ht1 hS.2.2)
    replace ht1 := Nat.lt_of_lt_of_le ht1 (Below.size hS.2.2)
    clear hS RT RE hs9 hn9 hb9 hb10
    try clear hHeld
    have kL := unhide HL
    replace l0 := kL.x0
    replace l1 := kL.x1
    replace l2 := kL.x2
    replace l2r := kL.x2r
    replace kb0 := ((unhide HB6).of kL.low).c0
    replace kb1 := ((unhide HB6).of kL.low).c1
    replace kbs := ((unhide HB6).of kL.low).sz
    replace fa := ((unhide HF5).of kL.low).a
    replace fb := ((unhide HF5).of kL.low).b
    replace fs := ((unhide HF5).of kL.low).sz
    replace dd := bT (unhide HD5) kL.low
    replace fs0 : w.heap.size < w13.heap.size := by have := fs; omega
    replace p2 : B2 < w13.heap.size := kL.o4
    replace p1 : B1 < w13.heap.size := by have := kL.o4; have := kL.o3; omega
    replace p0 : B0 < w13.heap.size := by have := kL.o4; have := kL.o3; have := kL.o2; omega
    clear kL
    have hMx := unhide HMX labx g0 _ (unhide HFx)
    have HM1 := hide hMx; clear hMx
    go_wp2_with fail
    refine (unhide HM1).mono ?_; rintro e w14 ⟨rfl, hBt⟩
    have kL := unhide HL
    replace HDm := hide ((unhide HDm).but hBt (fun b h1 h2 h3 => by have := kL.rx b h3; have := kL.o2; omega))
    replace HOg := hide ((unhide HOg).but hBt (fun b h1 h3 => by have := kL.rx b h3; have := kL.rg b h1; have := kL.o2; omega))
    replace HL := hide (kL.but hBt (fun b hb => by have := kL.rx b hb; have := kL.o2; have := kL.o3; omega))
    clear kL hBt HM1 HFx HTb ht1
    have kL := unhide HL
    replace l0 := kL.x0
    replace l1 := kL.x1
    replace l2 := kL.x2
    replace l2r := kL.x2r
    replace kb0 := ((unhide HB6).of kL.low).c0
    replace kb1 := ((unhide HB6).of kL.low).c1
    replace kbs := ((unhide HB6).of kL.low).sz
    replace fa := ((unhide HF5).of kL.low).a
    replace fb := ((unhide HF5).of kL.low).b
    replace fs := ((unhide HF5).of kL.low).sz
    replace dd := bT (unhide HD5) kL.low
    replace fs0 : w.heap.size < w14.heap.size := by have := fs; omega
    replace p2 : B2 < w14.heap.size := kL.o4
    replace p1 : B1 < w14.heap.size := by have := kL.o4; have := kL.o3; omega
    replace p0 : B0 < w14.heap.size := by have := kL.o4; have := kL.o3; have := kL.o2; omega
    clear kL
    have HM1 := hide (unhide HMD lo (B0 + 4) B1 g1 _ (unhide HDm))
    go_wp2_with fail
    refine (unhide HM1).mono ?_; rintro e w15 ⟨rfl, hBt⟩
    have kL := unhide HL
    replace HOg := hide ((unhide HOg).but hBt (fun b h1 h3 => by have := kL.rg b h1; omega))
    replace HL := hide (kL.but hBt (fun b hb => by have := kL.o1; have := kL.o2; have := kL.o3; omega))
    clear kL hBt HM1 HDm
    have kL := unhide HL
    replace l0 := kL.x0
    replace l1 := kL.x1
    replace l2 := kL.x2
    replace l2r := kL.x2r
    replace kb0 := ((unhide HB6).of kL.low).c0
    replace kb1 := ((unhide HB6).of kL.low).c1
    replace kbs := ((unhide HB6).of kL.low).sz
    replace fa := ((unhide HF5).of kL.low).a
    replace fb := ((unhide HF5).of kL.low).b
    replace fs := ((unhide HF5).of kL.low).sz
    replace dd := bT (unhide HD5) kL.low
    replace fs0 : w.heap.size < w15.heap.size := by have := fs; omega
    replace p2 : B2 < w15.heap.size := kL.o4
    replace p1 : B1 < w15.heap.size := by have := kL.o4; have := kL.o3; omega
    replace p0 : B0 < w15.heap.size := by have := kL.o4; have := kL.o3; have := kL.o2; omega
    clear kL
    have HE1 := hide (unhide HEQ vb vd va vc _ (unhide HOg).is ((unhide HB6).of (unhide HL).low).is)
    go_wp2_with fail
    refine (unhide HE1).mono ?_; rintro e w16 ⟨rfl, hb16⟩
    replace HL := hide ((unhide HL).of hb16)
    replace HOg := hide ((unhide HOg).of hb16)
    clear hb16 HE1
    have kL := unhide HL
    replace l0 := kL.x0
    replace l1 := kL.x1
    replace l2 := kL.x2
    replace l2r := kL.x2r
    replace kb0 := ((unhide HB6).of kL.low).c0
    replace kb1 := ((unhide HB6).of kL.low).c1
    replace kbs := ((unhide HB6).of kL.low).sz
    replace fa := ((unhide HF5).of kL.low).a
    replace fb := ((unhide HF5).of kL.low).b
    replace fs := ((unhide HF5).of kL.low).sz
    replace dd := bT (unhide HD5) kL.low
    replace fs0 : w.heap.size < w16.heap.size := by have := fs; omega
    replace p2 : B2 < w16.heap.size := kL.o4
    replace p1 : B1 < w16.heap.size := by have := kL.o4; have := kL.o3; omega
    replace p0 : B0 < w16.heap.size := by have := kL.o4; have := kL.o3; have := kL.o2; omega
    clear kL
    have HM1 := hide (unhide HMG labg (.slice vb no vd) _ (unhide HOg))
    go_wp2_with fail
    refine (unhide HM1).mono ?_; rintro e w17 ⟨rfl, hO17, hBt⟩
    have kL := unhide HL
    replace HL := hide (kL.but hBt (fun b hb => by have := kL.rg b hb; have := kL.o1; have := kL.o2; omega))
    replace HOg := hide hO17
    clear kL hBt HM1 hO17
    have kL := unhide HL
    replace l0 := kL.x0
    replace l1 := kL.x1
    replace l2 := kL.x2
    replace l2r := kL.x2r
    replace kb0 := ((unhide HB6).of kL.low).c0
    replace kb1 := ((unhide HB6).of kL.low).c1
    replace kbs := ((unhide HB6).of kL.low).sz
    replace fa := ((unhide HF5).of kL.low).a
    replace fb := ((unhide HF5).of kL.low).b
    replace fs := ((unhide HF5).of kL.low).sz
    replace dd := bT (unhide HD5) kL.low
    replace fs0 : w.heap.size < w17.heap.size := by have := fs; omega
    replace p2 : B2 < w17.heap.size := kL.o4
    replace p1 : B1 < w17.heap.size := by have := kL.o4; have := kL.o3; omega
    replace p0 : B0 < w17.heap.size := by have := kL.o4; have := kL.o3; have := kL.o2; omega
    clear kL
    have HM1 := hide (unhide HHG (.slice vb no vd) _ (unhide HOg).is)
    go_wp2_with fail
    refine (unhide HM1).mono ?_; rintro e w30 ⟨rfl, hb30⟩
    replace HL := hide ((unhide HL).of hb30)
    replace HOg := hide ((unhide HOg).of hb30)
    clear hb30 HM1
    have kL := unhide HL
    replace l0 := kL.x0
    replace l1 := kL.x1
    replace l2 := kL.x2
    replace l2r := kL.x2r
    replace kb0 := ((unhide HB6).of kL.low).c0
    replace kb1 := ((unhide HB6).of kL.low).c1
    replace kbs := ((unhide HB6).of kL.low).sz
    replace fa := ((unhide HF5).of kL.low).a
    replace fb := ((unhide HF5).of kL.low).b
    replace fs := ((unhide HF5).of kL.low).sz
    replace dd := bT (unhide HD5) kL.low
    replace fs0 : w.heap.size < w30.heap.size := by have := fs; omega
    replace p2 : B2 < w30.heap.size := kL.o4
    replace p1 : B1 < w30.heap.size := by have := kL.o4; have := kL.o3; omega
    replace p0 : B0 < w30.heap.size := by have := kL.o4; have := kL.o3; have := kL.o2; omega
    clear kL
    have d30 := dd
    go_upto_region 31 with fail
    go_cut [15, 16] (fun s6 s7 wx => ∃ X xa xc, s6 = .pointer (some ⟨X, 0, none⟩) ∧ s7 = .bool E ∧ BoxF wx X (.slice xa no xc) Ro out ∧ Below w30.heap.size w30 wx)
    case first =>
      refine wp_region_held_drew (S := Std w30) (by kernel_rfl) (Std.drew (Std.refl _)) (fun hHeld0 => ?_)
      refine tW 0 95 (.agg #[.slice a ps.length cap]) ?_
      simp only [puts]
      refine tW 2 97 (.agg #[.slice a' ts.length cap']) ?_
      simp only [puts]
      refine wpAnyH_ready (rs := [1, 8]) (by kernel_rfl) (by simp) ?_
      refine AllReadyH.cons rfl (fun Kx hK => ?_) (AllReadyH.cons rfl (fun Kx hK => ?_) AllReadyH.nil)
      rotate_left
      · skip
        go_simp
        refine hK.out _ _ (Std.alloc (by assumption) _) (fun hHeld1 => ?_)
        clear hK Kx
        have bx0 : (w30.alloc (.cells #[.slice none 0 0, .int .i64 0] 32)).drew.cell? ⟨w30.heap.size, 0, none⟩ = some (.slice none 0 0) := by simp [go_sem]
        have bx1 : (w30.alloc (.cells #[.slice none 0 0, .int .i64 0] 32)).drew.cell? ⟨w30.heap.size, 1, none⟩ = some (.int .i64 0) := by simp [go_sem]
        have bxf : ∀ o, (w30.alloc (.cells #[.slice none 0 0, .int .i64 0] 32)).drew.frozen? ⟨w30.heap.size, o, none⟩ = false := fun o => by simp [go_sem]
        have bxs : w30.heap.size < (w30.alloc (.cells #[.slice none 0 0, .int .i64 0] 32)).drew.heap.size := by simp
        have bxl : w30.heap.size ≤ w30.heap.size := by first | exact Nat.le_refl _ | exact hHeld0.2.2.size
        refine wpAnyH_ready (rs := [1]) (by kernel_rfl) (by simp) ?_
        refine AllReadyH.cons rfl (fun Kx hK => ?_) AllReadyH.nil
        go_simp
        refine (unhide HTP _ (bT d30 hHeld1.2.2)).mono ?_
        rintro e v2 ⟨gp, -, rfl, -, hgs, hgn, -, -, hbx⟩
        have bx0 := (hbx.cell (p := ⟨w30.heap.size, 0, none⟩) bxs).trans bx0
        have bx1 := (hbx.cell (p := ⟨w30.heap.size, 1, none⟩) bxs).trans bx1
        have bxf := fun o => (hbx.frozen (p := ⟨w30.heap.size, o, none⟩) bxs).trans (bxf o)
        have bxs0 := bxs
        have bxs := Nat.lt_of_lt_of_le bxs hbx.size
        refine hK.out _ _ (Std.call (by assumption) hbx) (fun hHeld2 => ?_)
        clear hK Kx hbx
        refine wpAnyH_ready (rs := [3]) (by kernel_rfl) (by simp) ?_
        refine AllReadyH.cons rfl (fun Kx hK => ?_) AllReadyH.nil
        go_simp
        refine (unhide HTD _ (bT d30 hHeld2.2.2)).mono ?_
        rintro e v3 ⟨gd, -, rfl, -, hds, hdn, -, hbx⟩
        have hgn := hgn.of hgs hbx; have hgs := Nat.lt_of_lt_of_le hgs hbx.size
        have bx0 := (hbx.cell (p := ⟨w30.heap.size, 0, none⟩) bxs).trans bx0
        have bx1 := (hbx.cell (p := ⟨w30.heap.size, 1, none⟩) bxs).trans bx1
        have bxf := fun o => (hbx.frozen (p := ⟨w30.heap.size, o, none⟩) bxs).trans (bxf o)
        have bxs0 := bxs
        have bxs := Nat.lt_of_lt_of_le bxs hbx.size
        refine hK.out _ _ (Std.call (by assumption) hbx) (fun hHeld3 => ?_)
        clear hK Kx hbx
        refine wpAnyH_ready (rs := [4]) (by kernel_rfl) (by simp) ?_
        refine AllReadyH.cons rfl (fun Kx hK => ?_) AllReadyH.nil
        go_simp
        refine (unhide HIB gp gd _ hgs hgn hds hdn (bT d30 hHeld3.2.2)).mono ?_
        rintro e v4 ⟨va, vc, rfl, hkp, hbx⟩
        have HV5 := hide hkp
        have bx0 := (hbx.cell (p := ⟨w30.heap.size, 0, none⟩) bxs).trans bx0
        have bx1 := (hbx.cell (p := ⟨w30.heap.size, 1, none⟩) bxs).trans bx1
        have bxf := fun o => (hbx.frozen (p := ⟨w30.heap.size, o, none⟩) bxs).trans (bxf o)
        have bxs0 := bxs
        have bxs := Nat.lt_of_lt_of_le bxs hbx.size
        refine hK.out _ _ (Std.call (by assumption) hbx) (fun hHeld4 => ?_)
        clear hK Kx hbx hkp hgn hdn
        refine tW 5 94 (.tuple #[.agg #[.slice va no vc, .int .i64 Ro], .bool E]) ?_
        simp only [puts]
        refine tW 6 100 (.agg #[.slice va no vc, .int .i64 Ro]) ?_
        simp only [puts]
        refine tW 7 101 (.bool E) ?_
        simp only [puts]
        refine wpAnyH_ready (rs := [9]) (by kernel_rfl) (by simp) ?_
        refine AllReadyH.cons rfl (fun Kx hK => ?_) AllReadyH.nil
        go_simp
        refine hK.out _ _ ?_ (fun hHeld5 => ?_)
        · first | exact Std.setCell (Std.setCell (by assumption) (by dsimp only; omega) _) (by dsimp only; omega) _ | exact Std.alloc (by assumption) _ | (repeat (first | with_reducible assumption | with_reducible exact Std.refl _ | with_reducible refine Std.drew ?_ | with_reducible refine Std.alloc ?_ _ | with_reducible refine Std.setCell ?_ ?_ _ | with_reducible refine Std.call ?_ (by with_reducible assumption) | (simp <;> omega) | omega))
        clear hK Kx
        refine tW 10 16 (.bool E) ?_
        simp only [puts]
        refine wpAnyH_done (by kernel_rfl) ?_ _
        go_wp2_with fail
        go_meet
        first | exact ⟨_, va, vc, rfl, rfl, box_leaf1 (unhide HV5) bxs0 bx0 bx1 bxs, hHeld5.2.2⟩ | exact ⟨_, va, vc, rfl, rfl, box_leaf2 (unhide HV5), hHeld5.2.2⟩
      · skip
        go_simp
        refine (unhide HTP _ (bT d30 hHeld0.2.2)).mono ?_
        rintro e v6 ⟨gp, -, rfl, -, hgs, hgn, -, -, hbx⟩
        refine hK.out _ _ (Std.call (by assumption) hbx) (fun hHeld6 => ?_)
        clear hK Kx hbx
        refine wpAnyH_ready (rs := [3, 8]) (by kernel_rfl) (by simp) ?_
        refine AllReadyH.cons rfl (fun Kx hK => ?_) (AllReadyH.cons rfl (fun Kx hK => ?_) AllReadyH.nil)
        rotate_left
        · skip
          go_simp
          refine hK.out _ _ (Std.alloc (by assumption) _) (fun hHeld7 => ?_)
          clear hK Kx
          have bx0 : (v6.alloc (.cells #[.slice none 0 0, .int .i64 0] 32)).cell? ⟨v6.heap.size, 0, none⟩ = some (.slice none 0 0) := by simp [go_sem]
          have bx1 : (v6.alloc (.cells #[.slice none 0 0, .int .i64 0] 32)).cell? ⟨v6.heap.size, 1, none⟩ = some (.int .i64 0) := by simp [go_sem]
          have bxf : ∀ o, (v6.alloc (.cells #[.slice none 0 0, .int .i64 0] 32)).frozen? ⟨v6.heap.size, o, none⟩ = false := fun o => by simp [go_sem]
          have bxs : v6.heap.size < (v6.alloc (.cells #[.slice none 0 0, .int .i64 0] 32)).heap.size := by simp
          have bxl : w30.heap.size ≤ v6.heap.size := by first | exact Nat.le_refl _ | exact hHeld6.2.2.size
          have hgn := hgn.of hgs (bA (Below.refl _ _) (.cells #[.slice none 0 0, .int .i64 0] 32)); have hgs : gp < (v6.alloc (.cells #[.slice none 0 0, .int .i64 0] 32)).heap.size := by simp; omega
          refine wpAnyH_ready (rs := [3]) (by kernel_rfl) (by simp) ?_
          refine AllReadyH.cons rfl (fun Kx hK => ?_) AllReadyH.nil
          go_simp
          refine (unhide HTD _ (bT d30 hHeld7.2.2)).mono ?_
          rintro e v8 ⟨gd, -, rfl, -, hds, hdn, -, hbx⟩
          have hgn := hgn.of hgs hbx; have hgs := Nat.lt_of_lt_of_le hgs hbx.size
          have bx0 := (hbx.cell (p := ⟨v6.heap.size, 0, none⟩) bxs).trans bx0
          have bx1 := (hbx.cell (p := ⟨v6.heap.size, 1, none⟩) bxs).trans bx1
          have bxf := fun o => (hbx.frozen (p := ⟨v6.heap.size, o, none⟩) bxs).trans (bxf o)
          have bxs0 := bxs
          have bxs := Nat.lt_of_lt_of_le bxs hbx.size
          refine hK.out _ _ (Std.call (by assumption) hbx) (fun hHeld8 => ?_)
          clear hK Kx hbx
          refine wpAnyH_ready (rs := [4]) (by kernel_rfl) (by simp) ?_
          refine AllReadyH.cons rfl (fun Kx hK => ?_) AllReadyH.nil
          go_simp
          refine (unhide HIB gp gd _ hgs hgn hds hdn (bT d30 hHeld8.2.2)).mono ?_
          rintro e v9 ⟨va, vc, rfl, hkp, hbx⟩
          have HV5 := hide hkp
          have bx0 := (hbx.cell (p := ⟨v6.heap.size, 0, none⟩) bxs).trans bx0
          have bx1 := (hbx.cell (p := ⟨v6.heap.size, 1, none⟩) bxs).trans bx1
          have bxf := fun o => (hbx.frozen (p := ⟨v6.heap.size, o, none⟩) bxs).trans (bxf o)
          have bxs0 := bxs
          have bxs := Nat.lt_of_lt_of_le bxs hbx.size
          refine hK.out _ _ (Std.call (by assumption) hbx) (fun hHeld9 => ?_)
          clear hK Kx hbx hkp hgn hdn
          refine tW 5 94 (.tuple #[.agg #[.slice va no vc, .int .i64 Ro], .bool E]) ?_
          simp only [puts]
          refine tW 6 100 (.agg #[.slice va no vc, .int .i64 Ro]) ?_
          simp only [puts]
          refine tW 7 101 (.bool E) ?_
          simp only [puts]
          refine wpAnyH_ready (rs := [9]) (by kernel_rfl) (by simp) ?_
          refine AllReadyH.cons rfl (fun Kx hK => ?_) AllReadyH.nil
          go_simp
          refine hK.out _ _ ?_ (fun hHeld10 => ?_)
          · first | exact Std.setCell (Std.setCell (by assumption) (by dsimp only; omega) _) (by dsimp only; omega) _ | exact Std.alloc (by assumption) _ | (repeat (first | with_reducible assumption | with_reducible exact Std.refl _ | with_reducible refine Std.drew ?_ | with_reducible refine Std.alloc ?_ _ | with_reducible refine Std.setCell ?_ ?_ _ | with_reducible refine Std.call ?_ (by with_reducible assumption) | (simp <;> omega) | omega))
          clear hK Kx
          refine tW 10 16 (.bool E) ?_
          simp only [puts]
          refine wpAnyH_done (by kernel_rfl) ?_ _
          go_wp2_with fail
          go_meet
          first | exact ⟨_, va, vc, rfl, rfl, box_leaf1 (unhide HV5) bxs0 bx0 bx1 bxs, hHeld10.2.2⟩ | exact ⟨_, va, vc, rfl, rfl, box_leaf2 (unhide HV5), hHeld10.2.2⟩
        · skip
          go_simp
          refine (unhide HTD _ (bT d30 hHeld6.2.2)).mono ?_
          rintro e v11 ⟨gd, -, rfl, -, hds, hdn, -, hbx⟩
          have hgn := hgn.of hgs hbx; have hgs := Nat.lt_of_lt_of_le hgs hbx.size
          refine hK.out _ _ (Std.call (by assumption) hbx) (fun hHeld11 => ?_)
          clear hK Kx hbx
          refine wpAnyH_ready (rs := [4, 8]) (by kernel_rfl) (by simp) ?_
          refine AllReadyH.cons rfl (fun Kx hK => ?_) (AllReadyH.cons rfl (fun Kx hK => ?_) AllReadyH.nil)
          rotate_left
          · skip
            go_simp
            refine hK.out _ _ (Std.alloc (by assumption) _) (fun hHeld12 => ?_)
            clear hK Kx
            have bx0 : (v11.alloc (.cells #[.slice none 0 0, .int .i64 0] 32)).cell? ⟨v11.heap.size, 0, none⟩ = some (.slice none 0 0) := by simp [go_sem]
            have bx1 : (v11.alloc (.cells #[.slice none 0 0, .int .i64 0] 32)).cell? ⟨v11.heap.size, 1, none⟩ = some (.int .i64 0) := by simp [go_sem]
            have bxf : ∀ o, (v11.alloc (.cells #[.slice none 0 0, .int .i64 0] 32)).frozen? ⟨v11.heap.size, o, none⟩ = false := fun o => by simp [go_sem]
            have bxs : v11.heap.size < (v11.alloc (.cells #[.slice none 0 0, .int .i64 0] 32)).heap.size := by simp
            have bxl : w30.heap.size ≤ v11.heap.size := by first | exact Nat.le_refl _ | exact hHeld11.2.2.size
            have hgn := hgn.of hgs (bA (Below.refl _ _) (.cells #[.slice none 0 0, .int .i64 0] 32)); have hgs : gp < (v11.alloc (.cells #[.slice none 0 0, .int .i64 0] 32)).heap.size := by simp; omega
            have hdn := hdn.of hds (bA (Below.refl _ _) (.cells #[.slice none 0 0, .int .i64 0] 32)); have hds : gd < (v11.alloc (.cells #[.slice none 0 0, .int .i64 0] 32)).heap.size := by simp; omega
            refine wpAnyH_ready (rs := [4]) (by kernel_rfl) (by simp) ?_
            refine AllReadyH.cons rfl (fun Kx hK => ?_) AllReadyH.nil
            go_simp
            refine (unhide HIB gp gd _ hgs hgn hds hdn (bT d30 hHeld12.2.2)).mono ?_
            rintro e v13 ⟨va, vc, rfl, hkp, hbx⟩
            have HV5 := hide hkp
            have bx0 := (hbx.cell (p := ⟨v11.heap.size, 0, none⟩) bxs).trans bx0
            have bx1 := (hbx.cell (p := ⟨v11.heap.size, 1, none⟩) bxs).trans bx1
            have bxf := fun o => (hbx.frozen (p := ⟨v11.heap.size, o, none⟩) bxs).trans (bxf o)
            have bxs0 := bxs
            have bxs := Nat.lt_of_lt_of_le bxs hbx.size
            refine hK.out _ _ (Std.call (by assumption) hbx) (fun hHeld13 => ?_)
            clear hK Kx hbx hkp hgn hdn
            refine tW 5 94 (.tuple #[.agg #[.slice va no vc, .int .i64 Ro], .bool E]) ?_
            simp only [puts]
            refine tW 6 100 (.agg #[.slice va no vc, .int .i64 Ro]) ?_
            simp only [puts]
            refine tW 7 101 (.bool E) ?_
            simp only [puts]
            refine wpAnyH_ready (rs := [9]) (by kernel_rfl) (by simp) ?_
            refine AllReadyH.cons rfl (fun Kx hK => ?_) AllReadyH.nil
            go_simp
            refine hK.out _ _ ?_ (fun hHeld14 => ?_)
            · first | exact Std.setCell (Std.setCell (by assumption) (by dsimp only; omega) _) (by dsimp only; omega) _ | exact Std.alloc (by assumption) _ | (repeat (first | with_reducible assumption | with_reducible exact Std.refl _ | with_reducible refine Std.drew ?_ | with_reducible refine Std.alloc ?_ _ | with_reducible refine Std.setCell ?_ ?_ _ | with_reducible refine Std.call ?_ (by with_reducible assumption) | (simp <;> omega) | omega))
            clear hK Kx
            refine tW 10 16 (.bool E) ?_
            simp only [puts]
            refine wpAnyH_done (by kernel_rfl) ?_ _
            go_wp2_with fail
            go_meet
            first | exact ⟨_, va, vc, rfl, rfl, box_leaf1 (unhide HV5) bxs0 bx0 bx1 bxs, hHeld14.2.2⟩ | exact ⟨_, va, vc, rfl, rfl, box_leaf2 (unhide HV5), hHeld14.2.2⟩
          · skip
            go_simp
            refine (unhide HIB gp gd _ hgs hgn hds hdn (bT d30 hHeld11.2.2)).mono ?_
            rintro e v15 ⟨va, vc, rfl, hkp, hbx⟩
            have HV5 := hide hkp
            refine hK.out _ _ (Std.call (by assumption) hbx) (fun hHeld15 => ?_)
            clear hK Kx hbx hkp hgn hdn
            refine tW 5 94 (.tuple #[.agg #[.slice va no vc, .int .i64 Ro], .bool E]) ?_
            simp only [puts]
            refine tW 6 100 (.agg #[.slice va no vc, .int .i64 Ro]) ?_
            simp only [puts]
            refine tW 7 101 (.bool E) ?_
            simp only [puts]
            refine wpAnyH_ready (rs := [8]) (by kernel_rfl) (by simp) ?_
            refine AllReadyH.cons rfl (fun Kx hK => ?_) AllReadyH.nil
            go_simp
            refine hK.out _ _ (Std.alloc (by assumption) _) (fun hHeld16 => ?_)
            clear hK Kx
            have bx0 : (v15.alloc (.cells #[.slice none 0 0, .int .i64 0] 32)).cell? ⟨v15.heap.size, 0, none⟩ = some (.slice none 0 0) := by simp [go_sem]
            have bx1 : (v15.alloc (.cells #[.slice none 0 0, .int .i64 0] 32)).cell? ⟨v15.heap.size, 1, none⟩ = some (.int .i64 0) := by simp [go_sem]
            have bxf : ∀ o, (v15.alloc (.cells #[.slice none 0 0, .int .i64 0] 32)).frozen? ⟨v15.heap.size, o, none⟩ = false := fun o => by simp [go_sem]
            have bxs : v15.heap.size < (v15.alloc (.cells #[.slice none 0 0, .int .i64 0] 32)).heap.size := by simp
            have bxl : w30.heap.size ≤ v15.heap.size := by first | exact Nat.le_refl _ | exact hHeld15.2.2.size
            have HV5 := HV5
            refine wpAnyH_ready (rs := [9]) (by kernel_rfl) (by simp) ?_
            refine AllReadyH.cons rfl (fun Kx hK => ?_) AllReadyH.nil
            go_simp
            refine hK.out _ _ ?_ (fun hHeld17 => ?_)
            · first | exact Std.setCell (Std.setCell (by assumption) (by dsimp only; omega) _) (by dsimp only; omega) _ | exact Std.alloc (by assumption) _ | (repeat (first | with_reducible assumption | with_reducible exact Std.refl _ | with_reducible refine Std.drew ?_ | with_reducible refine Std.alloc ?_ _ | with_reducible refine Std.setCell ?_ ?_ _ | with_reducible refine Std.call ?_ (by with_reducible assumption) | (simp <;> omega) | omega))
            clear hK Kx
            refine tW 10 16 (.bool E) ?_
            simp only [puts]
            refine wpAnyH_done (by kernel_rfl) ?_ _
            go_wp2_with fail
            go_meet
            first | exact ⟨_, va, vc, rfl, rfl, box_leaf1 (unhide HV5) bxs0 bx0 bx1 bxs, hHeld17.2.2⟩ | exact ⟨_, va, vc, rfl, rfl, box_leaf2 (unhide HV5), hHeld17.2.2⟩
    case rest =>
      obtain ⟨X7, ua, uc, rfl, rfl, hB7, hL7⟩ := hcut
      replace HL := hide ((unhide HL).of hL7)
      replace HOg := hide ((unhide HOg).of hL7)
      have HB7 := hide hB7
      clear hL7 hB7 d30
      have kL := unhide HL
      replace l0 := kL.x0
      replace l1 := kL.x1
      replace l2 := kL.x2
      replace l2r := kL.x2r
      replace kb0 := ((unhide HB6).of kL.low).c0
      replace kb1 := ((unhide HB6).of kL.low).c1
      replace kbs := ((unhide HB6).of kL.low).sz
      replace fa := ((unhide HF5).of kL.low).a
      replace fb := ((unhide HF5).of kL.low).b
      replace fs := ((unhide HF5).of kL.low).sz
      replace dd := bT (unhide HD5) kL.low
      replace fs0 : w.heap.size < wc.heap.size := by have := fs; omega
      replace p2 : B2 < wc.heap.size := kL.o4
      replace p1 : B1 < wc.heap.size := by have := kL.o4; have := kL.o3; omega
      replace p0 : B0 < wc.heap.size := by have := kL.o4; have := kL.o3; have := kL.o2; omega
      clear kL
      have m0 := (unhide HB7).c0
      have m2 := (unhide HB7).c1
      have m3 := (unhide HB7).sz
      have HE1 := hide (unhide HEQ ua uc va vc _ (unhide HB7).is ((unhide HB6).of (unhide HL).low).is)
      go_wp2_with fail
      refine (unhide HE1).mono ?_; rintro e w40 ⟨rfl, hb40⟩
      replace HL := hide ((unhide HL).of hb40)
      replace HOg := hide ((unhide HOg).of hb40)
      clear hb40 HE1 HB7 m0 m2 m3
      have kL := unhide HL
      replace l0 := kL.x0
      replace l1 := kL.x1
      replace l2 := kL.x2
      replace l2r := kL.x2r
      replace kb0 := ((unhide HB6).of kL.low).c0
      replace kb1 := ((unhide HB6).of kL.low).c1
      replace kbs := ((unhide HB6).of kL.low).sz
      replace fa := ((unhide HF5).of kL.low).a
      replace fb := ((unhide HF5).of kL.low).b
      replace fs := ((unhide HF5).of kL.low).sz
      replace dd := bT (unhide HD5) kL.low
      replace fs0 : w.heap.size < w40.heap.size := by have := fs; omega
      replace p2 : B2 < w40.heap.size := kL.o4
      replace p1 : B1 < w40.heap.size := by have := kL.o4; have := kL.o3; omega
      replace p0 : B0 < w40.heap.size := by have := kL.o4; have := kL.o3; have := kL.o2; omega
      clear kL
      have HM1 := hide (unhide HHG (.slice vb no vd) _ (unhide HOg).is)
      go_wp2_with fail
      refine (unhide HM1).mono ?_; rintro e w41 ⟨rfl, hb41⟩
      go_wp2
      go_ret
      exact ⟨rfl, bT dd hb41⟩
end Go.Proofs.YtnchcndcinpalaaGreatDoor
