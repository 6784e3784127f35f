import Derived.Test.YtkdeilhkobcglaaDoorGSpecFx
import Derived.Test.YtkdeilhkobcglaaDoorGImplF
import Derived.Test.YtkdeilhkobcglaaDoorGFlatKit
import Derived.Test.YtkdeilhkobcglaaDoorGDb
import Derived.Test.YtkdeilhkobcglaaDoorTakes2
import Derived.Deep.RegionHeld3
/-
  THE LAW OF FlatOk: the walk.
-/
namespace Go.Proofs.YtkdeilhkobcglaaDoor
open Go Go.RowKit

structure LG (s : Nat) (Rt : Int) (va vb : Value) (W : World) : Prop where
  a : W.cell? ⟨s, 0, none⟩ = some va
  r : W.cell? ⟨s, 1, none⟩ = some (.int .i64 Rt)
  b : W.cell? ⟨s + 1, 0, none⟩ = some vb
  sz : s + 1 < W.heap.size
theorem LG.of {s : Nat} {Rt : Int} {va vb : Value} {W W1 : World} (h : LG s Rt va vb W) (hb : Below W.heap.size W W1) : LG s Rt va vb W1 := by
  have hs := h.sz
  exact ⟨(hb.cell (p := ⟨s, 0, none⟩) (show s < _ by omega)).trans h.a, (hb.cell (p := ⟨s, 1, none⟩) (show s < _ by omega)).trans h.r, (hb.cell (p := ⟨s + 1, 0, none⟩) (show s + 1 < _ by omega)).trans h.b, Nat.lt_of_lt_of_le hs hb.size⟩
theorem smallT_eachF {ts : List Tb} (h : SmallT ts) : ∀ t ∈ ts, t.Rows.length ≤ 1048576 ∧ bulk t.Rows ≤ 1048576 := fun t ht => by
  have := bulkT_mem ht
  unfold SmallT at h
  exact ⟨by omega, by omega⟩
theorem smallF_each {ps : List Fn} (h : bulkF ps ≤ 1048576) : ∀ p ∈ ps, p.Ex.length ≤ 1048576 ∧ p.Exs.length ≤ 1048576 ∧ bulkO p.Exs ≤ 1048576 := fun p hp => by
  have := bulkF_mem hp
  exact ⟨by omega, by omega, by omega⟩
theorem smallF_fit {ps : List Fn} (h : bulkF ps ≤ 1048576) : ∀ p ∈ ps, p.Ex.length ≤ 1048576 ∧ p.Exs.length ≤ 1048576 ∧ ∀ xs ∈ p.Exs, xs.length ≤ 1048576 := fun p hp => by
  have := bulkF_mem hp
  exact ⟨by omega, by omega, fun xs hx => by have := bulkO_mem hx; omega⟩

set_option maxRecDepth 100000 in
set_option maxHeartbeats 8000000 in
theorem lawFlatOk_calls (v v' : Value) (Rt : Int) (ps : List Fn) (ts : List Tb) (w : World) (hv : IsFns w v ps) (hv' : IsTables w v' ts) (hl : ps.length ≤ maxLen) (hf : FitsF ps) (hl' : ts.length ≤ maxLen) (hf' : FitsT ts) (hTT : TTakes w) (hTK : TKw w) (hTP : TFlat w) :
    Calls Tryd.prog 5 #[.agg #[v, .int .i64 Rt], .agg #[v']] w fun e w' => e = .returned (.bool true) ∧ Below w.heap.size w w' := by
  have SZ := fun W (hb : Below w.heap.size w W) => szFlat_calls v Rt ps 1048576 W (hv.of hb) hl hf (by omega) (by omega)
  have SD := fun W (hb : Below w.heap.size w W) (left : Int) h0 h1 => szDb_calls v' ts left W (hv'.of hb) hl' hf' h0 h1
  have HV := hide hv; have HV' := hide hv'
  obtain ⟨a, cap, rfl⟩ := isFns_slice hv
  obtain ⟨a', cap', rfl⟩ := isTables_slice hv'
  clear hv hv' hl hf hl' hf'
  by_cases c1 : (1048576 : Int) < ((ps.length + bulkF ps : Nat) : Int)
  · have ez : szr 1048576 (ps.length + bulkF ps) = -1 := by unfold szr; rw [if_pos c1]
    rw [ez] at SZ
    have HS := hide SZ
    clear SZ SD ez hTK hTP hTT c1 HV HV'
    go_enter Tryd.func5, Tryd.ntmps5
    go_wp2_with fail
    refine (unhide HS _ (bA (bA (Below.refl _ _) _) _)).mono ?_; rintro e w1 ⟨rfl, hb1⟩
    go_wp2
    go_ret
    exact ⟨rfl, bT (bA (bA (Below.refl _ _) _) _) hb1⟩
  have ez : szr 1048576 (ps.length + bulkF ps) = 1048576 - ((ps.length + bulkF ps : Nat) : Int) := by unfold szr; rw [if_neg c1]
  rw [ez] at SZ
  obtain ⟨z1, hz1⟩ : ∃ z : Int, 1048576 - ((ps.length + bulkF ps : Nat) : Int) = z := ⟨_, rfl⟩
  rw [hz1] at SZ
  have hz0 : ¬ z1 < 0 := by omega
  have SD1 := fun W (hb : Below w.heap.size w W) => SD W hb z1 (by omega) (by omega)
  clear SD ez
  have lp : ps.length ≤ 1048576 := by omega
  have hpb : bulkF ps ≤ 1048576 := by omega
  by_cases c2 : z1 < ((ts.length + bulkT ts : Nat) : Int)
  · have ez : szr z1 (ts.length + bulkT ts) = -1 := by unfold szr; rw [if_pos c2]
    rw [ez] at SD1
    have HS := hide SZ; have HSD := hide SD1
    clear SZ SD1 ez hTK hTP hTT c1 c2 HV HV' hz1
    go_enter Tryd.func5, Tryd.ntmps5
    go_wp2_with fail
    refine (unhide HS _ (bA (bA (Below.refl _ _) _) _)).mono ?_; rintro e w1 ⟨rfl, hb1⟩
    have d1 := bT (bA (bA (Below.refl w.heap.size w) _) _) hb1
    have F1 : LG w.heap.size Rt (.slice a ps.length cap) (.slice a' ts.length cap') w1 := LG.of ⟨by simp [go_sem], by simp [go_sem], by simp [go_sem], by simp⟩ hb1
    clear hb1
    obtain ⟨fa, fr, fb, fs⟩ := id F1
    go_wp2_with fail
    refine (unhide HSD _ d1).mono ?_; rintro e w2 ⟨rfl, hb2⟩
    go_wp2
    go_ret
    exact ⟨rfl, bT d1 hb2⟩
  have ez : szr z1 (ts.length + bulkT ts) = z1 - ((ts.length + bulkT ts : Nat) : Int) := by unfold szr; rw [if_neg c2]
  rw [ez] at SD1
  obtain ⟨z2, hz2⟩ : ∃ z : Int, z1 - ((ts.length + bulkT ts : Nat) : Int) = z := ⟨_, rfl⟩
  rw [hz2] at SD1
  have hz3 : ¬ z2 < 0 := by omega
  have lt : ts.length ≤ 1048576 := by omega
  have hsm : SmallT ts := (show bulkT ts ≤ 1048576 by omega)
  have hkb := smallT_eachF hsm
  have hkp := smallF_each hpb
  have hfit := smallF_fit hpb
  have TP := fun W (hb : Below w.heap.size w W) => toFlat_calls (.slice a ps.length cap) Rt ps W ((unhide HV).of hb) lp hkp
  have TD := fun W (hb : Below w.heap.size w W) => toDb_calls (.slice a' ts.length cap') ts W ((unhide HV').of hb) lt hkb
  have SA := fun g gt W h1 h2 h3 h4 => sFlatOk_calls ts ps Rt g ps.length gt ts.length W lt hsm hfit h1 h2 h3 h4
  have IA := fun g gt W h1 h2 h3 h4 (hb : Below w.heap.size w W) => FlatOk_calls ts ps Rt g ps.length gt ts.length W lt hsm hfit h1 h2 h3 h4 (hTK.of hb) (hTP.of hb) (hTT.of hb)
  have EP := fun g g' W h1 h2 h3 h4 => eqFlat_calls Rt ps g g' ps.length ps.length W h1 h2 h3 h4 lp hkp
  have ED := fun g g' W h1 h2 h3 h4 => eqDb_calls ts g g' ts.length ts.length W h1 h2 h3 h4 lt hkb
  obtain ⟨z, E, hE⟩ : ∃ z E, flatE ts ps Rt = .returned (.tuple #[.int .i64 z, .bool E]) := ⟨_, _, rfl⟩
  simp only [hE] at SA IA
  have HSZ := hide SZ; have HSD := hide SD1; have HTP := hide TP; have HTD := hide TD; have HSA := hide SA; have HIA := hide IA; have HEP := hide EP; have HED := hide ED
  have hnz : (z != z) = false := by simp
  clear SZ SD1 TP TD SA IA EP ED hsm hkb hkp hfit ez hz1 hz2 hTK hTP hTT c1 c2 HV HV' hE hpb
  have hne : (E != E) = false := by simp
  cases E
  · go_enter Tryd.func5, Tryd.ntmps5
    go_wp2_with fail
    refine (unhide HSZ _ (bA (bA (Below.refl _ _) _) _)).mono ?_; rintro e w1 ⟨rfl, hb1⟩
    have d1 := bT (bA (bA (Below.refl w.heap.size w) _) _) hb1
    have F1 : LG w.heap.size Rt (.slice a ps.length cap) (.slice a' ts.length cap') w1 := LG.of ⟨by simp [go_sem], by simp [go_sem], by simp [go_sem], by simp⟩ hb1
    clear hb1
    obtain ⟨fa, fr, fb, fs⟩ := id F1
    go_wp2_with fail
    refine (unhide HSD _ d1).mono ?_; rintro e w2 ⟨rfl, hb2⟩
    have d2 := bT d1 hb2
    have F2 := F1.of hb2
    clear hb2 fa fr fb fs F1 d1
    obtain ⟨fa, fr, fb, fs⟩ := id F2
    have fs0 : w.heap.size < w2.heap.size := by omega
    go_upto_region 8 with fail
    refine wp_region_held_drew (S := Std w2) (by kernel_rfl) (Std.drew (Std.refl _)) (fun hHeld => ?_)
    refine takeW 0 23 (.agg #[.slice a ps.length cap, .int .i64 Rt]) rfl rfl (by kernel_rfl) (by kernel_rfl) (by kernel_rfl) (fun _ _ _ h => h) rfl (fun wx hSw => by obtain ⟨hs1, hs2⟩ := hSw; go_simp) (by assumption) ?_
    simp only [Act.put, List.setIfInBounds_toArray, List.set_cons_succ, List.set_cons_zero]
    refine takeW 2 25 (.agg #[.slice a' ts.length cap']) rfl rfl (by kernel_rfl) (by kernel_rfl) (by kernel_rfl) (fun _ _ _ h => h) rfl (fun wx hSw => by obtain ⟨hs1, hs2⟩ := hSw; go_simp) (by assumption) ?_
    simp only [Act.put, List.setIfInBounds_toArray, List.set_cons_succ, List.set_cons_zero]
    refine wpAnyH_ready (rs := [1]) (by kernel_rfl) (by simp) ?_
    refine AllReadyH.cons rfl (fun Kx hK => ?_) AllReadyH.nil
    go_simp
    refine (unhide HTP _ (bT d2 hHeld.2.2)).mono ?_
    rintro e w3 ⟨gp, rfl, hgp, hgs, hgn, hb3⟩
    refine hK.out _ _ (Std.call (by assumption) hb3) (fun hHeld2 => ?_)
    clear hK Kx hHeld
    refine wpAnyH_ready (rs := [3]) (by kernel_rfl) (by simp) ?_
    refine AllReadyH.cons rfl (fun Kx hK => ?_) AllReadyH.nil
    go_simp
    refine (unhide HTD _ (bT d2 hHeld2.2.2)).mono ?_
    rintro e w4 ⟨gd, rfl, hgd, hds, hdn, hb4⟩
    have hgs4 : gp < w4.heap.size := Nat.lt_of_lt_of_le hgs hb4.size
    have hgn4 := hgn.of hgs hb4
    have hds4 := hds
    have hdn4 := hdn
    refine hK.out _ _ (Std.call (by assumption) hb4) (fun hHeld3 => ?_)
    clear hK Kx hHeld2 hgn hdn hb3 hb4 hgp hgd hgs hds
    refine wpAnyH_ready (rs := [4]) (by kernel_rfl) (by simp) ?_
    refine AllReadyH.cons rfl (fun Kx hK => ?_) AllReadyH.nil
    go_simp
    refine (unhide HSA gp gd _ hgs4 hgn4 hds4 hdn4).mono ?_
    rintro e w5 ⟨rfl, hb5⟩
    refine hK.out _ _ (Std.call (by assumption) hb5) (fun hHeld4 => ?_)
    clear hK Kx hHeld3 hgn4 hdn4 hgs4 hds4 hb5
    refine takeW 5 22 (.tuple #[.int .i64 z, .bool false]) rfl rfl (by kernel_rfl) (by kernel_rfl) (by kernel_rfl) (fun _ _ _ h => h) rfl (fun wx hSw => by obtain ⟨hs1, hs2⟩ := hSw; go_simp) (by assumption) ?_
    simp only [Act.put, List.setIfInBounds_toArray, List.set_cons_succ, List.set_cons_zero]
    refine takeW 6 28 (.int .i64 z) rfl rfl (by kernel_rfl) (by kernel_rfl) (by kernel_rfl) (fun _ _ _ h => h) rfl (fun wx hSw => by obtain ⟨hs1, hs2⟩ := hSw; go_simp) (by assumption) ?_
    simp only [Act.put, List.setIfInBounds_toArray, List.set_cons_succ, List.set_cons_zero]
    refine takeW 7 29 (.bool false) rfl rfl (by kernel_rfl) (by kernel_rfl) (by kernel_rfl) (fun _ _ _ h => h) rfl (fun wx hSw => by obtain ⟨hs1, hs2⟩ := hSw; go_simp) (by assumption) ?_
    simp only [Act.put, List.setIfInBounds_toArray, List.set_cons_succ, List.set_cons_zero]
    refine takeW 8 6 (.int .i64 z) rfl rfl (by kernel_rfl) (by kernel_rfl) (by kernel_rfl) (fun _ _ _ h => h) rfl (fun wx hSw => by obtain ⟨hs1, hs2⟩ := hSw; go_simp) (by assumption) ?_
    simp only [Act.put, List.setIfInBounds_toArray, List.set_cons_succ, List.set_cons_zero]
    refine takeW 9 7 (.bool false) rfl rfl (by kernel_rfl) (by kernel_rfl) (by kernel_rfl) (fun _ _ _ h => h) rfl (fun wx hSw => by obtain ⟨hs1, hs2⟩ := hSw; go_simp) (by assumption) ?_
    simp only [Act.put, List.setIfInBounds_toArray, List.set_cons_succ, List.set_cons_zero]
    refine wpAnyH_done (by kernel_rfl) ?_ _
    have d5 := bT d2 hHeld4.2.2
    have F5 := F2.of hHeld4.2.2
    clear hHeld4 fa fr fb fs fs0 F2 d2
    obtain ⟨fa, fr, fb, fs⟩ := id F5
    have fs0 : w.heap.size < w5.heap.size := by omega
    go_wp2_with fail
    refine (unhide HTP _ d5).mono ?_; rintro e w6 ⟨g0, rfl, hg0, hs0, hn0, hb6⟩
    have d6 := bT d5 hb6
    have F6 := F5.of hb6
    clear hb6 fa fr fb fs fs0 F5 d5 hg0
    obtain ⟨fa, fr, fb, fs⟩ := id F6
    have fs0 : w.heap.size < w6.heap.size := by omega
    go_wp2_with fail
    refine (unhide HTD _ (bA d6 _)).mono ?_; rintro e w7 ⟨g1, rfl, hg1, hs1, hn1, hb7⟩
    have d7 := bT (bA d6 _) hb7
    have F7 := (F6.of (bA (Below.refl _ _) _)).of hb7
    have bx0 : w7.cell? ⟨w6.heap.size, 0, none⟩ = some (.slice (some ⟨g0, 0, none⟩) ps.length ps.length) := (hb7.cell (p := ⟨w6.heap.size, 0, none⟩) (by simp)).trans (by simp [go_sem])
    have bx0r : w7.cell? ⟨w6.heap.size, 1, none⟩ = some (.int .i64 Rt) := (hb7.cell (p := ⟨w6.heap.size, 1, none⟩) (by simp)).trans (by simp [go_sem])
    have sx0 : w6.heap.size < w7.heap.size := (by have := hb7.size; simp at this; omega)
    have hn7 := (hn0.of hs0 (bA (Below.refl _ _) _)).of (by simp; omega) hb7
    have hs7 : g0 < w7.heap.size := by omega
    clear hb7 fa fr fb fs fs0 F6 d6 hn0 hg1
    generalize w6.heap.size = B0 at *
    have HN7 := hide hn7; have HN1 := hide hn1
    clear hn7 hn1
    obtain ⟨fa, fr, fb, fs⟩ := id F7
    have fs0 : w.heap.size < w7.heap.size := by omega
    go_wp2_with fail
    refine (unhide HIA g0 g1 _ (by simp; omega) ((unhide HN7).of hs7 (bA (Below.refl _ _) _)) (by simp; omega) ((unhide HN1).of hs1 (bA (Below.refl _ _) _)) (bA d7 _)).mono ?_; rintro e w8 ⟨rfl, hb8⟩
    have q8 := bT (bA (Below.refl w7.heap.size w7) (.cells #[.slice (some ⟨g1, 0, none⟩) ts.length ts.length] 38)) hb8
    have d8 := bT d7 q8
    have F8 := F7.of q8
    have bx08 := (q8.cell (p := ⟨B0, 0, none⟩) sx0).trans bx0
    have bx08r := (q8.cell (p := ⟨B0, 1, none⟩) sx0).trans bx0r
    have bx18 : w8.cell? ⟨w7.heap.size, 0, none⟩ = some (.slice (some ⟨g1, 0, none⟩) ts.length ts.length) := (hb8.cell (p := ⟨w7.heap.size, 0, none⟩) (by simp)).trans (by simp [go_sem])
    have sx1 : w7.heap.size < w8.heap.size := (by have := hb8.size; simp at this; omega)
    have HN78 := hide ((unhide HN7).of hs7 q8); have HN18 := hide ((unhide HN1).of hs1 q8)
    have hs78 : g0 < w8.heap.size := by omega
    have hs18 : g1 < w8.heap.size := by omega
    have sx08 : B0 < w8.heap.size := by omega
    clear hb8 q8 fa fr fb fs fs0 F7 d7 HN7 HN1 bx0 bx0r hs7 hs1
    generalize w7.heap.size = B1 at *
    obtain ⟨fa, fr, fb, fs⟩ := id F8
    have fs0 : w.heap.size < w8.heap.size := by omega
    go_upto_region 14 with fail
    have RT : Hid (∀ W, Std w8 W → Calls Tryd.prog 18 #[.agg #[.slice a ps.length cap, .int .i64 Rt]] W fun e w' => ∃ g, e = .returned (.agg #[.slice (some ⟨g, 0, none⟩) ps.length ps.length, .int .i64 Rt]) ∧ W.heap.size ≤ g ∧ g < w'.heap.size ∧ FnsAt w' g 0 ps ∧ Below W.heap.size W w') := fun W h => unhide HTP W (bT d8 h.2.2)
    have RE : Hid (∀ W g', Std w8 W → g' < W.heap.size → FnsAt W g' 0 ps → Calls Tryd.prog 20 #[.agg #[.slice (some ⟨g0, 0, none⟩) ps.length ps.length, .int .i64 Rt], .agg #[.slice (some ⟨g', 0, none⟩) ps.length ps.length, .int .i64 Rt]] W fun e w' => e = .returned (.bool true) ∧ Below W.heap.size W w') := fun W g' h h1 h2 => unhide HEP g0 g' W (Nat.lt_of_lt_of_le hs78 h.2.2.size) h1 ((unhide HN78).of hs78 h.2.2) h2
    go_region_held3 (Std w8) (repeat (first | with_reducible assumption | with_reducible exact Std.refl _ | with_reducible refine Std.drew ?_ | with_reducible refine Std.alloc ?_ _ | with_reducible refine Std.setCell ?_ ?_ _ | with_reducible refine Std.call ?_ (by with_reducible assumption) | (simp <;> omega) | omega)) (first
      | (go_at_call 18; refine (unhide RT _ (by assumption)).mono ?_; rintro e w9 ⟨g9, rfl, hg9, hs9, hn9, hb9⟩)
      | (go_at_call 20; refine (unhide RE _ _ (by assumption) (by assumption) (by assumption)).mono ?_; rintro e w10 ⟨rfl, hb10⟩))
    have hS : Std w8 w10 := by assumption
    have F10 := F8.of hS.2.2
    have d10 := bT d8 hS.2.2
    have bx110 := (hS.2.2.cell (p := ⟨B1, 0, none⟩) sx1).trans bx18
    have sx110 : B1 < w10.heap.size := Nat.lt_of_lt_of_le sx1 hS.2.2.size
    have HN10 := hide ((unhide HN18).of hs18 hS.2.2)
    have hs10 : g1 < w10.heap.size := Nat.lt_of_lt_of_le hs18 hS.2.2.size
    clear hS fa fr fb fs fs0 F8 RT RE HN78 HN18 bx08 bx08r bx18 hs18 hs78 sx1 sx08 sx0 d8 hn9 hb9 hb10 hs9 hg9
    try clear hHeld
    obtain ⟨fa, fr, fb, fs⟩ := id F10
    have fs0 : w.heap.size < w10.heap.size := by omega
    go_upto_region 16 with fail
    have RT : Hid (∀ W, Std w10 W → Calls Tryd.prog 10 #[.agg #[.slice a' ts.length cap']] W fun e w' => ∃ g, e = .returned (.agg #[.slice (some ⟨g, 0, none⟩) ts.length ts.length]) ∧ W.heap.size ≤ g ∧ g < w'.heap.size ∧ TablesAt w' g 0 ts ∧ Below W.heap.size W w') := fun W h => unhide HTD W (bT d10 h.2.2)
    have RE : Hid (∀ W g', Std w10 W → g' < W.heap.size → TablesAt W g' 0 ts → Calls Tryd.prog 13 #[.agg #[.slice (some ⟨g1, 0, none⟩) ts.length ts.length], .agg #[.slice (some ⟨g', 0, none⟩) ts.length ts.length]] W fun e w' => e = .returned (.bool true) ∧ Below W.heap.size W w') := fun W g' h h1 h2 => unhide HED g1 g' W (Nat.lt_of_lt_of_le hs10 h.2.2.size) h1 ((unhide HN10).of hs10 h.2.2) h2
    go_region_held3 (Std w10) (repeat (first | with_reducible assumption | with_reducible exact Std.refl _ | with_reducible refine Std.drew ?_ | with_reducible refine Std.alloc ?_ _ | with_reducible refine Std.setCell ?_ ?_ _ | with_reducible refine Std.call ?_ (by with_reducible assumption) | (simp <;> omega) | omega)) (first
      | (go_at_call 10; refine (unhide RT _ (by assumption)).mono ?_; rintro e w11 ⟨g11, rfl, hg11, hs11, hn11, hb11⟩)
      | (go_at_call 13; refine (unhide RE _ _ (by assumption) (by assumption) (by assumption)).mono ?_; rintro e w12 ⟨rfl, hb12⟩))
    have hS : Std w10 w12 := by assumption
    go_wp2
    go_ret
    exact ⟨rfl, bT d10 hS.2.2⟩
  · go_enter Tryd.func5, Tryd.ntmps5
    go_wp2_with fail
    refine (unhide HSZ _ (bA (bA (Below.refl _ _) _) _)).mono ?_; rintro e w1 ⟨rfl, hb1⟩
    have d1 := bT (bA (bA (Below.refl w.heap.size w) _) _) hb1
    have F1 : LG w.heap.size Rt (.slice a ps.length cap) (.slice a' ts.length cap') w1 := LG.of ⟨by simp [go_sem], by simp [go_sem], by simp [go_sem], by simp⟩ hb1
    clear hb1
    obtain ⟨fa, fr, fb, fs⟩ := id F1
    go_wp2_with fail
    refine (unhide HSD _ d1).mono ?_; rintro e w2 ⟨rfl, hb2⟩
    have d2 := bT d1 hb2
    have F2 := F1.of hb2
    clear hb2 fa fr fb fs F1 d1
    obtain ⟨fa, fr, fb, fs⟩ := id F2
    have fs0 : w.heap.size < w2.heap.size := by omega
    go_upto_region 8 with fail
    refine wp_region_held_drew (S := Std w2) (by kernel_rfl) (Std.drew (Std.refl _)) (fun hHeld => ?_)
    refine takeW 0 23 (.agg #[.slice a ps.length cap, .int .i64 Rt]) rfl rfl (by kernel_rfl) (by kernel_rfl) (by kernel_rfl) (fun _ _ _ h => h) rfl (fun wx hSw => by obtain ⟨hs1, hs2⟩ := hSw; go_simp) (by assumption) ?_
    simp only [Act.put, List.setIfInBounds_toArray, List.set_cons_succ, List.set_cons_zero]
    refine takeW 2 25 (.agg #[.slice a' ts.length cap']) rfl rfl (by kernel_rfl) (by kernel_rfl) (by kernel_rfl) (fun _ _ _ h => h) rfl (fun wx hSw => by obtain ⟨hs1, hs2⟩ := hSw; go_simp) (by assumption) ?_
    simp only [Act.put, List.setIfInBounds_toArray, List.set_cons_succ, List.set_cons_zero]
    refine wpAnyH_ready (rs := [1]) (by kernel_rfl) (by simp) ?_
    refine AllReadyH.cons rfl (fun Kx hK => ?_) AllReadyH.nil
    go_simp
    refine (unhide HTP _ (bT d2 hHeld.2.2)).mono ?_
    rintro e w3 ⟨gp, rfl, hgp, hgs, hgn, hb3⟩
    refine hK.out _ _ (Std.call (by assumption) hb3) (fun hHeld2 => ?_)
    clear hK Kx hHeld
    refine wpAnyH_ready (rs := [3]) (by kernel_rfl) (by simp) ?_
    refine AllReadyH.cons rfl (fun Kx hK => ?_) AllReadyH.nil
    go_simp
    refine (unhide HTD _ (bT d2 hHeld2.2.2)).mono ?_
    rintro e w4 ⟨gd, rfl, hgd, hds, hdn, hb4⟩
    have hgs4 : gp < w4.heap.size := Nat.lt_of_lt_of_le hgs hb4.size
    have hgn4 := hgn.of hgs hb4
    have hds4 := hds
    have hdn4 := hdn
    refine hK.out _ _ (Std.call (by assumption) hb4) (fun hHeld3 => ?_)
    clear hK Kx hHeld2 hgn hdn hb3 hb4 hgp hgd hgs hds
    refine wpAnyH_ready (rs := [4]) (by kernel_rfl) (by simp) ?_
    refine AllReadyH.cons rfl (fun Kx hK => ?_) AllReadyH.nil
    go_simp
    refine (unhide HSA gp gd _ hgs4 hgn4 hds4 hdn4).mono ?_
    rintro e w5 ⟨rfl, hb5⟩
    refine hK.out _ _ (Std.call (by assumption) hb5) (fun hHeld4 => ?_)
    clear hK Kx hHeld3 hgn4 hdn4 hgs4 hds4 hb5
    refine takeW 5 22 (.tuple #[.int .i64 z, .bool true]) rfl rfl (by kernel_rfl) (by kernel_rfl) (by kernel_rfl) (fun _ _ _ h => h) rfl (fun wx hSw => by obtain ⟨hs1, hs2⟩ := hSw; go_simp) (by assumption) ?_
    simp only [Act.put, List.setIfInBounds_toArray, List.set_cons_succ, List.set_cons_zero]
    refine takeW 6 28 (.int .i64 z) rfl rfl (by kernel_rfl) (by kernel_rfl) (by kernel_rfl) (fun _ _ _ h => h) rfl (fun wx hSw => by obtain ⟨hs1, hs2⟩ := hSw; go_simp) (by assumption) ?_
    simp only [Act.put, List.setIfInBounds_toArray, List.set_cons_succ, List.set_cons_zero]
    refine takeW 7 29 (.bool true) rfl rfl (by kernel_rfl) (by kernel_rfl) (by kernel_rfl) (fun _ _ _ h => h) rfl (fun wx hSw => by obtain ⟨hs1, hs2⟩ := hSw; go_simp) (by assumption) ?_
    simp only [Act.put, List.setIfInBounds_toArray, List.set_cons_succ, List.set_cons_zero]
    refine takeW 8 6 (.int .i64 z) rfl rfl (by kernel_rfl) (by kernel_rfl) (by kernel_rfl) (fun _ _ _ h => h) rfl (fun wx hSw => by obtain ⟨hs1, hs2⟩ := hSw; go_simp) (by assumption) ?_
    simp only [Act.put, List.setIfInBounds_toArray, List.set_cons_succ, List.set_cons_zero]
    refine takeW 9 7 (.bool true) rfl rfl (by kernel_rfl) (by kernel_rfl) (by kernel_rfl) (fun _ _ _ h => h) rfl (fun wx hSw => by obtain ⟨hs1, hs2⟩ := hSw; go_simp) (by assumption) ?_
    simp only [Act.put, List.setIfInBounds_toArray, List.set_cons_succ, List.set_cons_zero]
    refine wpAnyH_done (by kernel_rfl) ?_ _
    have d5 := bT d2 hHeld4.2.2
    have F5 := F2.of hHeld4.2.2
    clear hHeld4 fa fr fb fs fs0 F2 d2
    obtain ⟨fa, fr, fb, fs⟩ := id F5
    have fs0 : w.heap.size < w5.heap.size := by omega
    go_wp2_with fail
    refine (unhide HTP _ d5).mono ?_; rintro e w6 ⟨g0, rfl, hg0, hs0, hn0, hb6⟩
    have d6 := bT d5 hb6
    have F6 := F5.of hb6
    clear hb6 fa fr fb fs fs0 F5 d5 hg0
    obtain ⟨fa, fr, fb, fs⟩ := id F6
    have fs0 : w.heap.size < w6.heap.size := by omega
    go_wp2_with fail
    refine (unhide HTD _ (bA d6 _)).mono ?_; rintro e w7 ⟨g1, rfl, hg1, hs1, hn1, hb7⟩
    have d7 := bT (bA d6 _) hb7
    have F7 := (F6.of (bA (Below.refl _ _) _)).of hb7
    have bx0 : w7.cell? ⟨w6.heap.size, 0, none⟩ = some (.slice (some ⟨g0, 0, none⟩) ps.length ps.length) := (hb7.cell (p := ⟨w6.heap.size, 0, none⟩) (by simp)).trans (by simp [go_sem])
    have bx0r : w7.cell? ⟨w6.heap.size, 1, none⟩ = some (.int .i64 Rt) := (hb7.cell (p := ⟨w6.heap.size, 1, none⟩) (by simp)).trans (by simp [go_sem])
    have sx0 : w6.heap.size < w7.heap.size := (by have := hb7.size; simp at this; omega)
    have hn7 := (hn0.of hs0 (bA (Below.refl _ _) _)).of (by simp; omega) hb7
    have hs7 : g0 < w7.heap.size := by omega
    clear hb7 fa fr fb fs fs0 F6 d6 hn0 hg1
    generalize w6.heap.size = B0 at *
    have HN7 := hide hn7; have HN1 := hide hn1
    clear hn7 hn1
    obtain ⟨fa, fr, fb, fs⟩ := id F7
    have fs0 : w.heap.size < w7.heap.size := by omega
    go_wp2_with fail
    refine (unhide HIA g0 g1 _ (by simp; omega) ((unhide HN7).of hs7 (bA (Below.refl _ _) _)) (by simp; omega) ((unhide HN1).of hs1 (bA (Below.refl _ _) _)) (bA d7 _)).mono ?_; rintro e w8 ⟨rfl, hb8⟩
    have q8 := bT (bA (Below.refl w7.heap.size w7) (.cells #[.slice (some ⟨g1, 0, none⟩) ts.length ts.length] 38)) hb8
    have d8 := bT d7 q8
    have F8 := F7.of q8
    have bx08 := (q8.cell (p := ⟨B0, 0, none⟩) sx0).trans bx0
    have bx08r := (q8.cell (p := ⟨B0, 1, none⟩) sx0).trans bx0r
    have bx18 : w8.cell? ⟨w7.heap.size, 0, none⟩ = some (.slice (some ⟨g1, 0, none⟩) ts.length ts.length) := (hb8.cell (p := ⟨w7.heap.size, 0, none⟩) (by simp)).trans (by simp [go_sem])
    have sx1 : w7.heap.size < w8.heap.size := (by have := hb8.size; simp at this; omega)
    have HN78 := hide ((unhide HN7).of hs7 q8); have HN18 := hide ((unhide HN1).of hs1 q8)
    have hs78 : g0 < w8.heap.size := by omega
    have hs18 : g1 < w8.heap.size := by omega
    have sx08 : B0 < w8.heap.size := by omega
    clear hb8 q8 fa fr fb fs fs0 F7 d7 HN7 HN1 bx0 bx0r hs7 hs1
    generalize w7.heap.size = B1 at *
    obtain ⟨fa, fr, fb, fs⟩ := id F8
    have fs0 : w.heap.size < w8.heap.size := by omega
    go_upto_region 14 with fail
    have RT : Hid (∀ W, Std w8 W → Calls Tryd.prog 18 #[.agg #[.slice a ps.length cap, .int .i64 Rt]] W fun e w' => ∃ g, e = .returned (.agg #[.slice (some ⟨g, 0, none⟩) ps.length ps.length, .int .i64 Rt]) ∧ W.heap.size ≤ g ∧ g < w'.heap.size ∧ FnsAt w' g 0 ps ∧ Below W.heap.size W w') := fun W h => unhide HTP W (bT d8 h.2.2)
    have RE : Hid (∀ W g', Std w8 W → g' < W.heap.size → FnsAt W g' 0 ps → Calls Tryd.prog 20 #[.agg #[.slice (some ⟨g0, 0, none⟩) ps.length ps.length, .int .i64 Rt], .agg #[.slice (some ⟨g', 0, none⟩) ps.length ps.length, .int .i64 Rt]] W fun e w' => e = .returned (.bool true) ∧ Below W.heap.size W w') := fun W g' h h1 h2 => unhide HEP g0 g' W (Nat.lt_of_lt_of_le hs78 h.2.2.size) h1 ((unhide HN78).of hs78 h.2.2) h2
    go_region_held3 (Std w8) (repeat (first | with_reducible assumption | with_reducible exact Std.refl _ | with_reducible refine Std.drew ?_ | with_reducible refine Std.alloc ?_ _ | with_reducible refine Std.setCell ?_ ?_ _ | with_reducible refine Std.call ?_ (by with_reducible assumption) | (simp <;> omega) | omega)) (first
      | (go_at_call 18; refine (unhide RT _ (by assumption)).mono ?_; rintro e w9 ⟨g9, rfl, hg9, hs9, hn9, hb9⟩)
      | (go_at_call 20; refine (unhide RE _ _ (by assumption) (by assumption) (by assumption)).mono ?_; rintro e w10 ⟨rfl, hb10⟩))
    have hS : Std w8 w10 := by assumption
    have F10 := F8.of hS.2.2
    have d10 := bT d8 hS.2.2
    have bx110 := (hS.2.2.cell (p := ⟨B1, 0, none⟩) sx1).trans bx18
    have sx110 : B1 < w10.heap.size := Nat.lt_of_lt_of_le sx1 hS.2.2.size
    have HN10 := hide ((unhide HN18).of hs18 hS.2.2)
    have hs10 : g1 < w10.heap.size := Nat.lt_of_lt_of_le hs18 hS.2.2.size
    clear hS fa fr fb fs fs0 F8 RT RE HN78 HN18 bx08 bx08r bx18 hs18 hs78 sx1 sx08 sx0 d8 hn9 hb9 hb10 hs9 hg9
    try clear hHeld
    obtain ⟨fa, fr, fb, fs⟩ := id F10
    have fs0 : w.heap.size < w10.heap.size := by omega
    go_upto_region 16 with fail
    have RT : Hid (∀ W, Std w10 W → Calls Tryd.prog 10 #[.agg #[.slice a' ts.length cap']] W fun e w' => ∃ g, e = .returned (.agg #[.slice (some ⟨g, 0, none⟩) ts.length ts.length]) ∧ W.heap.size ≤ g ∧ g < w'.heap.size ∧ TablesAt w' g 0 ts ∧ Below W.heap.size W w') := fun W h => unhide HTD W (bT d10 h.2.2)
    have RE : Hid (∀ W g', Std w10 W → g' < W.heap.size → TablesAt W g' 0 ts → Calls Tryd.prog 13 #[.agg #[.slice (some ⟨g1, 0, none⟩) ts.length ts.length], .agg #[.slice (some ⟨g', 0, none⟩) ts.length ts.length]] W fun e w' => e = .returned (.bool true) ∧ Below W.heap.size W w') := fun W g' h h1 h2 => unhide HED g1 g' W (Nat.lt_of_lt_of_le hs10 h.2.2.size) h1 ((unhide HN10).of hs10 h.2.2) h2
    go_region_held3 (Std w10) (repeat (first | with_reducible assumption | with_reducible exact Std.refl _ | with_reducible refine Std.drew ?_ | with_reducible refine Std.alloc ?_ _ | with_reducible refine Std.setCell ?_ ?_ _ | with_reducible refine Std.call ?_ (by with_reducible assumption) | (simp <;> omega) | omega)) (first
      | (go_at_call 10; refine (unhide RT _ (by assumption)).mono ?_; rintro e w11 ⟨g11, rfl, hg11, hs11, hn11, hb11⟩)
      | (go_at_call 13; refine (unhide RE _ _ (by assumption) (by assumption) (by assumption)).mono ?_; rintro e w12 ⟨rfl, hb12⟩))
    have hS : Std w10 w12 := by assumption
    go_wp2
    go_ret
    exact ⟨rfl, bT d10 hS.2.2⟩
end Go.Proofs.YtkdeilhkobcglaaDoor
