import Derived.Test.YtmcbmmpjhijagaaGreatDoorPrTxB
namespace Go.Proofs.YtmcbmmpjhijagaaGreatDoor
open Go Go.RowKit
theorem ownC {w : World} {B g c n : Nat} {e : TypeId} {xs : List Value} (h : w.ownsRow B e 1 (.slice (some ⟨g, 0, none⟩) (n + 1) c) (n + 1) xs) : (1 : Int) ≤ (c : Int) ∧ 1 ≤ c ∧ g < w.heap.size := by
  rcases h.2 with ⟨h, _⟩ | ⟨g', c', cur, h1, _, h3, h4, _⟩
  · cases h
  · simp only [Value.slice.injEq, Option.some.injEq, Addr.mk.injEq, and_true, true_and] at h1
    obtain ⟨rfl, rfl⟩ := h1
    exact ⟨by omega, by omega, (Array.getElem?_eq_some_iff.1 h3).1⟩
set_option maxRecDepth 100000 in
set_option maxHeartbeats 8000000 in
theorem text_41 (ns : List Nd) (g cap i : Nat) (n : Nd) (w : World) (_ : g < w.heap.size) (hn : NodesAt w g 0 ns) (hni : ns[i]? = some n) (hK : n.K = 4) (N : Nat) (hN : n.N = (N : Int)) (hNhi : N ≤ n.Kids.length) (hM : n.M = 1) (hm : n.Kids.length ≤ 10000) (hk : ∀ x ∈ n.Kids, 0 ≤ x ∧ x < (ns.length : Int)) (T : Int → List UInt8) (HC : ∀ W, Below w.heap.size w W → ∀ x ∈ n.Kids, Calls Tryz.prog 11 #[.slice (some ⟨g, 0, none⟩) ns.length cap, .int .i64 x] W fun e w' => e = .returned (.string (mkS (T x))) ∧ Below W.heap.size W w') (bl : List UInt8) (hbl : bl.length ≤ 150000000) (HBk : ∀ W, Below w.heap.size w W → Calls Tryz.prog 26 #[.slice (some ⟨g, 0, none⟩) ns.length cap, .int .i64 (i : Int)] W fun e w' => e = .returned (.string (mkS bl)) ∧ Below W.heap.size W w') (hd : List UInt8) (hhl : hd.length ≤ 5000000) (hhd : ((n.Kids.take N).map T ++ [[42]])[0]? = some hd) :
    Calls Tryz.prog 11 #[.slice (some ⟨g, 0, none⟩) ns.length cap, .int .i64 (i : Int)] w fun e w' => e = .returned (.string (mkS ([40, 32, 83, 69, 76, 69, 67, 84, 32] ++ [67, 79, 85, 78, 84, 32, 40, 32] ++ hd ++ [32, 41, 32] ++ bl ++ [32, 41]))) ∧ Below w.heap.size w w' := by
  obtain ⟨ti, hti, hz⟩ := Option.map_eq_some_iff.1 (show (Tryz.prog.info? 9).map (fun i => (i.zero, i.size, i.bytes)) = some (some (.string ByteArray.empty), 1, 16) by kernel_rfl)
  simp only [Prod.mk.injEq] at hz
  obtain ⟨hz0, hz1, hz2⟩ := hz
  have hi : i < ns.length := (List.getElem?_eq_some_iff.1 hni).1
  obtain ⟨⟨x0, x1, x2, x3, x4⟩, kg, x5, _, hkg, hks⟩ := hn i n hni
  simp only [Nat.zero_add] at x0 x1 x2 x3 x4 x5
  rw [hK] at x0
  rw [hM] at x2
  rw [hN] at x1
  have j0 : (i : Int) < (ns.length : Int) := by omega
  obtain ⟨Z, hZ⟩ : ∃ Z : List UInt8, [40, 32, 83, 69, 76, 69, 67, 84, 32] ++ [67, 79, 85, 78, 84, 32, 40, 32] ++ hd ++ [32, 41, 32] ++ bl ++ [32, 41] = Z := ⟨_, rfl⟩
  rw [hZ]
  have HZ0 := hide hZ
  clear hZ
  have Hhk := hide hk
  have HHC := hide HC
  have HHBk := hide HBk
  have Hhhd := hide hhd
  have HN := hide hn
  have HKs := hide hks
  clear hn hks hni hk HC HBk hhd
  go_enter Tryz.func11, Tryz.ntmps11
  go_wp2
  go_loopw [6, 7] (fun v c wr => ∃ (k : Nat) (fs : List (List UInt8)), k ≤ n.Kids.length ∧ c = .int .i64 k ∧ fs = (n.Kids.take (min k N)).map T ∧ wr.ownsRow (w.heap.size + 1) 9 1 v fs.length (strs fs) ∧ w.heap.size + 1 ≤ wr.heap.size ∧ Below (w.heap.size + 1) (w.alloc (.cells #[.int .i64 4, .int .i64 (N : Int), .int .i64 1, .string n.S, .string n.T, .slice (some ⟨kg, 0, none⟩) n.Kids.length n.Kids.length] 54)) wr) (fun _ c _ => n.Kids.length - (intOf c).toNat)
  case atStart => exact ⟨0, [], Nat.zero_le _, rfl, by simp, own_new _ _ (by simp), by simp, (Below.refl _ _).alloc (by simp) _⟩
  case round =>
    obtain ⟨k, fs, hk2, rfl, hfs, hown, hsz, hbx⟩ := hrel
    have HO := hide hown; have HX := hide hbx; have HFs := hide hfs
    have HB : Hid (Below w.heap.size w wr) := (bA (Below.refl _ _) _).trans (hbx.mono (Nat.le_succ _))
    have b0 : wr.cell? ⟨w.heap.size, 0, none⟩ = some (.int .i64 4) := (hbx.cell (p := ⟨w.heap.size, 0, none⟩) (Nat.lt_succ_self _)).trans (by simp [go_sem])
    have b1 : wr.cell? ⟨w.heap.size, 1, none⟩ = some (.int .i64 (N : Int)) := (hbx.cell (p := ⟨w.heap.size, 1, none⟩) (Nat.lt_succ_self _)).trans (by simp [go_sem])
    have b2 : wr.cell? ⟨w.heap.size, 2, none⟩ = some (.int .i64 1) := (hbx.cell (p := ⟨w.heap.size, 2, none⟩) (Nat.lt_succ_self _)).trans (by simp [go_sem])
    have b3 : wr.cell? ⟨w.heap.size, 3, none⟩ = some (.string n.S) := (hbx.cell (p := ⟨w.heap.size, 3, none⟩) (Nat.lt_succ_self _)).trans (by simp [go_sem])
    have b4 : wr.cell? ⟨w.heap.size, 4, none⟩ = some (.string n.T) := (hbx.cell (p := ⟨w.heap.size, 4, none⟩) (Nat.lt_succ_self _)).trans (by simp [go_sem])
    have b5 : wr.cell? ⟨w.heap.size, 5, none⟩ = some (.slice (some ⟨kg, 0, none⟩) n.Kids.length n.Kids.length) := (hbx.cell (p := ⟨w.heap.size, 5, none⟩) (Nat.lt_succ_self _)).trans (by simp [go_sem])
    clear hown hbx hfs
    have s3 : w.heap.size < wr.heap.size := by omega
    by_cases hlt : k < n.Kids.length
    · have j1 : (k : Int) < (n.Kids.length : Int) := by omega
      by_cases hkN : k < N
      · skip
        obtain ⟨x, hx⟩ : ∃ x, n.Kids[k]? = some x := ⟨n.Kids[k], List.getElem?_eq_getElem hlt⟩
        have hxm : x ∈ n.Kids := List.mem_of_getElem? hx
        obtain ⟨p, rfl⟩ : ∃ p : Nat, x = (p : Int) := ⟨x.toNat, by have := (unhide Hhk x hxm).1; omega⟩
        have c1 : wr.cell? ⟨kg, k, none⟩ = some (.int .i64 (p : Int)) := by
          have := unhide HKs k _ hx
          rw [Nat.zero_add] at this
          exact ((bcell (unhide HB)).1 kg k hkg).trans this
        have s1 : kg < wr.heap.size := by omega
        have HCx := hide (unhide HHC wr (unhide HB) _ hxm)
        have HTk : Hid ((n.Kids.take (min (k + 1) N)).map T = (n.Kids.take (min k N)).map T ++ [T (p : Int)]) := by
          show _ = _
          rw [show min (k + 1) N = k + 1 by omega, show min k N = k by omega, List.take_add_one, hx, List.map_append]
          rfl
        have jN : (k : Int) < (N : Int) := by omega
        have hfl : fs.length ≤ 10000 := by rw [unhide HFs]; simp; omega
        clear hx hxm
        generalize T (p : Int) = t at *
        go_wp2_with fail
        refine (unhide HCx).mono ?_
        rintro e w1 ⟨rfl, hb1⟩
        have HO1 := hide (bA_own t (ownB (unhide HO) hb1))
        have HX1 : Hid (Below (w.heap.size + 1) (w.alloc (.cells #[.int .i64 4, .int .i64 (N : Int), .int .i64 1, .string n.S, .string n.T, .slice (some ⟨kg, 0, none⟩) n.Kids.length n.Kids.length] 54)) w1) := (unhide HX).trans (hb1.mono hsz)
        have s31 : w.heap.size < w1.heap.size := Nat.lt_of_lt_of_le s3 hb1.size
        clear hb1 HCx
        go_wp2_with (at_builtin; refine wpList_append_lies _ rfl (.tmp 68) (.tmp 76) 37 rfl (w.heap.size + 1) 9 ti _ 1 16 Tryz.underlying37 hti hz0 hz1 hz2 rfl (by decide) _ fs.length (strs fs) rfl (unhide HO1).1 ⟨w1.heap.size, 0, none⟩ 1 1 (strs [t]) rfl rfl (unhide HO1).2 (strs_one [t]) (by decide) (by unfold maxLen; omega) (by omega) (by simp; omega) _ rfl ?_; intro g2 c2 w2 hown2 hgrow hat hlt2; have HBg := hide (own_grown (unhide HO1).1 hgrow (by simp; omega)))
        go_roundw
        case rel =>
          refine ⟨k + 1, fs ++ [t], by omega, by go_num, by rw [unhide HTk, unhide HFs], by rw [List.length_append, strs_app]; exact hown2, ?_, (((unhide HX1).alloc (by omega) _).trans (unhide HBg))⟩
          have := (unhide HBg).size
          simp at this
          omega
        case measure => simp [intOf]; omega
      · have jN : ¬ (k : Int) < (N : Int) := by omega
        go_wp2
        go_roundw
        case rel => exact ⟨k + 1, fs, by omega, by go_num, by rw [unhide HFs, show min (k + 1) N = min k N by omega], unhide HO, hsz, unhide HX⟩
        case measure => simp [intOf]; omega
    · obtain rfl : k = n.Kids.length := by omega
      have hfs : fs = (n.Kids.take N).map T := by rw [unhide HFs, show min n.Kids.length N = N by omega]
      have hfl : fs.length ≤ 10000 := by rw [hfs]; simp; omega
      have HHd : Hid ((strs fs ++ strs [[42]])[0]? = some (.string (mkS hd))) := by
        show _ = _
        rw [← strs_app]
        unfold strs
        rw [List.getElem?_map, hfs, unhide Hhhd]
        rfl
      clear hfs
      obtain ⟨r1, h1⟩ : ∃ r, ([40, 32, 83, 69, 76, 69, 67, 84, 32] : List UInt8) ++ ([67, 79, 85, 78, 84, 32, 40, 32] : List UInt8) = r := ⟨_, rfl⟩
      have l1 : r1.length ≤ 200000000 := by rw [← h1]; first | (simp; done) | (simp; omega)
      have A1 : ∀ w, (Op.stringOp .add ⟨#[40, 32, 83, 69, 76, 69, 67, 84, 32]⟩ ⟨#[67, 79, 85, 78, 84, 32, 40, 32]⟩).run Tryz.prog w = .ok (.string (mkS r1)) w := fun w => by rw [← h1]; exact cat_is Tryz.prog w ([40, 32, 83, 69, 76, 69, 67, 84, 32] : List UInt8) ([67, 79, 85, 78, 84, 32, 40, 32] : List UInt8) (by first | omega | (simp; done) | (simp; omega))
      obtain ⟨r2, h2⟩ : ∃ r, r1 ++ hd = r := ⟨_, rfl⟩
      have l2 : r2.length ≤ 400000000 := by rw [← h2]; first | (simp; done) | (simp; omega)
      have A2 : ∀ w, (Op.stringOp .add (mkS r1) (mkS hd)).run Tryz.prog w = .ok (.string (mkS r2)) w := fun w => by rw [← h2]; exact cat_is Tryz.prog w r1 hd (by first | omega | (simp; done) | (simp; omega))
      obtain ⟨r3, h3⟩ : ∃ r, r2 ++ ([32, 41, 32] : List UInt8) = r := ⟨_, rfl⟩
      have l3 : r3.length ≤ 600000000 := by rw [← h3]; first | (simp; done) | (simp; omega)
      have A3 : ∀ w, (Op.stringOp .add (mkS r2) ⟨#[32, 41, 32]⟩).run Tryz.prog w = .ok (.string (mkS r3)) w := fun w => by rw [← h3]; exact cat_is Tryz.prog w r2 ([32, 41, 32] : List UInt8) (by first | omega | (simp; done) | (simp; omega))
      obtain ⟨r4, h4⟩ : ∃ r, r3 ++ bl = r := ⟨_, rfl⟩
      have l4 : r4.length ≤ 800000000 := by rw [← h4]; first | (simp; done) | (simp; omega)
      have A4 : ∀ w, (Op.stringOp .add (mkS r3) (mkS bl)).run Tryz.prog w = .ok (.string (mkS r4)) w := fun w => by rw [← h4]; exact cat_is Tryz.prog w r3 bl (by first | omega | (simp; done) | (simp; omega))
      obtain ⟨r5, h5⟩ : ∃ r, r4 ++ ([32, 41] : List UInt8) = r := ⟨_, rfl⟩
      have l5 : r5.length ≤ 1000000000 := by rw [← h5]; first | (simp; done) | (simp; omega)
      have A5 : ∀ w, (Op.stringOp .add (mkS r4) ⟨#[32, 41]⟩).run Tryz.prog w = .ok (.string (mkS r5)) w := fun w => by rw [← h5]; exact cat_is Tryz.prog w r4 ([32, 41] : List UInt8) (by first | omega | (simp; done) | (simp; omega))
      have HZ : Hid ([40, 32, 83, 69, 76, 69, 67, 84, 32] ++ [67, 79, 85, 78, 84, 32, 40, 32] ++ hd ++ [32, 41, 32] ++ bl ++ [32, 41] = r5) := by
        show _ = _
        rw [← h5, ← h4, ← h3, ← h2, ← h1]
      clear h1 l1 h2 l2 h3 l3 h4 l4 h5 l5
      have HO1 := hide (bA_own [42] (unhide HO))
      go_wp2_with (at_builtin; refine wpList_append_lies _ rfl (.tmp 108) (.tmp 109) 37 rfl (w.heap.size + 1) 9 ti _ 1 16 Tryz.underlying37 hti hz0 hz1 hz2 rfl (by decide) _ fs.length (strs fs) rfl (unhide HO1).1 ⟨wr.heap.size, 0, none⟩ 1 1 (strs [[42]]) rfl rfl (unhide HO1).2 (strs_one [[42]]) (by decide) (by unfold maxLen; omega) (by omega) (by simp; omega) _ rfl ?_; intro g2 c2 w2 hown2 hgrow hat hlt2; have HBg := hide (own_grown (unhide HO1).1 hgrow (by simp; omega)); have HOw := hide hown2; obtain ⟨hcc, hcd, hg2⟩ := ownC hown2; clear hown2 hgrow hat)
      have HB2 : Hid (Below w.heap.size w w2) := (bA (unhide HB) _).trans ((unhide HBg).mono (by omega))
      refine (l2Join_calls [hd] [] g2 c2 w2 hg2 (fun j t hj => ?_) (by simp) (by simp; omega) (by simp)).mono ?_
      · match j, hj with
        | 0, hj => simp at hj; subst hj; rw [(unhide HOw).cellAt 0 (by omega)]; exact unhide HHd
      rintro e w3 ⟨rfl, rfl⟩
      rw [Lib.join_one]
      go_wp2_with fail
      refine (unhide HHBk _ (unhide HB2)).mono ?_
      rintro e w4 ⟨rfl, hb4⟩
      have HB4 := hide (bT (unhide HB2) hb4)
      clear hb4
      go_wp2
      go_returns
      refine ⟨?_, unhide HB4⟩
      rw [← unhide HZ0, unhide HZ]
      rfl
set_option maxRecDepth 100000 in
set_option maxHeartbeats 8000000 in
theorem text_42 (ns : List Nd) (g cap i : Nat) (n : Nd) (w : World) (_ : g < w.heap.size) (hn : NodesAt w g 0 ns) (hni : ns[i]? = some n) (hK : n.K = 4) (N : Nat) (hN : n.N = (N : Int)) (hNhi : N ≤ n.Kids.length) (hM : n.M = 2) (hm : n.Kids.length ≤ 10000) (hk : ∀ x ∈ n.Kids, 0 ≤ x ∧ x < (ns.length : Int)) (T : Int → List UInt8) (HC : ∀ W, Below w.heap.size w W → ∀ x ∈ n.Kids, Calls Tryz.prog 11 #[.slice (some ⟨g, 0, none⟩) ns.length cap, .int .i64 x] W fun e w' => e = .returned (.string (mkS (T x))) ∧ Below W.heap.size W w') (bl : List UInt8) (hbl : bl.length ≤ 150000000) (HBk : ∀ W, Below w.heap.size w W → Calls Tryz.prog 26 #[.slice (some ⟨g, 0, none⟩) ns.length cap, .int .i64 (i : Int)] W fun e w' => e = .returned (.string (mkS bl)) ∧ Below W.heap.size W w') (hd : List UInt8) (hhl : hd.length ≤ 5000000) (hhd : ((n.Kids.take N).map T ++ [[42]])[0]? = some hd) :
    Calls Tryz.prog 11 #[.slice (some ⟨g, 0, none⟩) ns.length cap, .int .i64 (i : Int)] w fun e w' => e = .returned (.string (mkS ([40, 32, 83, 69, 76, 69, 67, 84, 32] ++ [67, 79, 85, 78, 84, 32, 40, 32] ++ hd ++ [32, 41, 32] ++ bl ++ [32, 41]))) ∧ Below w.heap.size w w' := by
  obtain ⟨ti, hti, hz⟩ := Option.map_eq_some_iff.1 (show (Tryz.prog.info? 9).map (fun i => (i.zero, i.size, i.bytes)) = some (some (.string ByteArray.empty), 1, 16) by kernel_rfl)
  simp only [Prod.mk.injEq] at hz
  obtain ⟨hz0, hz1, hz2⟩ := hz
  have hi : i < ns.length := (List.getElem?_eq_some_iff.1 hni).1
  obtain ⟨⟨x0, x1, x2, x3, x4⟩, kg, x5, _, hkg, hks⟩ := hn i n hni
  simp only [Nat.zero_add] at x0 x1 x2 x3 x4 x5
  rw [hK] at x0
  rw [hM] at x2
  rw [hN] at x1
  have j0 : (i : Int) < (ns.length : Int) := by omega
  obtain ⟨Z, hZ⟩ : ∃ Z : List UInt8, [40, 32, 83, 69, 76, 69, 67, 84, 32] ++ [67, 79, 85, 78, 84, 32, 40, 32] ++ hd ++ [32, 41, 32] ++ bl ++ [32, 41] = Z := ⟨_, rfl⟩
  rw [hZ]
  have HZ0 := hide hZ
  clear hZ
  have Hhk := hide hk
  have HHC := hide HC
  have HHBk := hide HBk
  have Hhhd := hide hhd
  have HN := hide hn
  have HKs := hide hks
  clear hn hks hni hk HC HBk hhd
  go_enter Tryz.func11, Tryz.ntmps11
  go_wp2
  go_loopw [6, 7] (fun v c wr => ∃ (k : Nat) (fs : List (List UInt8)), k ≤ n.Kids.length ∧ c = .int .i64 k ∧ fs = (n.Kids.take (min k N)).map T ∧ wr.ownsRow (w.heap.size + 1) 9 1 v fs.length (strs fs) ∧ w.heap.size + 1 ≤ wr.heap.size ∧ Below (w.heap.size + 1) (w.alloc (.cells #[.int .i64 4, .int .i64 (N : Int), .int .i64 2, .string n.S, .string n.T, .slice (some ⟨kg, 0, none⟩) n.Kids.length n.Kids.length] 54)) wr) (fun _ c _ => n.Kids.length - (intOf c).toNat)
  case atStart => exact ⟨0, [], Nat.zero_le _, rfl, by simp, own_new _ _ (by simp), by simp, (Below.refl _ _).alloc (by simp) _⟩
  case round =>
    obtain ⟨k, fs, hk2, rfl, hfs, hown, hsz, hbx⟩ := hrel
    have HO := hide hown; have HX := hide hbx; have HFs := hide hfs
    have HB : Hid (Below w.heap.size w wr) := (bA (Below.refl _ _) _).trans (hbx.mono (Nat.le_succ _))
    have b0 : wr.cell? ⟨w.heap.size, 0, none⟩ = some (.int .i64 4) := (hbx.cell (p := ⟨w.heap.size, 0, none⟩) (Nat.lt_succ_self _)).trans (by simp [go_sem])
    have b1 : wr.cell? ⟨w.heap.size, 1, none⟩ = some (.int .i64 (N : Int)) := (hbx.cell (p := ⟨w.heap.size, 1, none⟩) (Nat.lt_succ_self _)).trans (by simp [go_sem])
    have b2 : wr.cell? ⟨w.heap.size, 2, none⟩ = some (.int .i64 2) := (hbx.cell (p := ⟨w.heap.size, 2, none⟩) (Nat.lt_succ_self _)).trans (by simp [go_sem])
    have b3 : wr.cell? ⟨w.heap.size, 3, none⟩ = some (.string n.S) := (hbx.cell (p := ⟨w.heap.size, 3, none⟩) (Nat.lt_succ_self _)).trans (by simp [go_sem])
    have b4 : wr.cell? ⟨w.heap.size, 4, none⟩ = some (.string n.T) := (hbx.cell (p := ⟨w.heap.size, 4, none⟩) (Nat.lt_succ_self _)).trans (by simp [go_sem])
    have b5 : wr.cell? ⟨w.heap.size, 5, none⟩ = some (.slice (some ⟨kg, 0, none⟩) n.Kids.length n.Kids.length) := (hbx.cell (p := ⟨w.heap.size, 5, none⟩) (Nat.lt_succ_self _)).trans (by simp [go_sem])
    clear hown hbx hfs
    have s3 : w.heap.size < wr.heap.size := by omega
    by_cases hlt : k < n.Kids.length
    · have j1 : (k : Int) < (n.Kids.length : Int) := by omega
      by_cases hkN : k < N
      · skip
        obtain ⟨x, hx⟩ : ∃ x, n.Kids[k]? = some x := ⟨n.Kids[k], List.getElem?_eq_getElem hlt⟩
        have hxm : x ∈ n.Kids := List.mem_of_getElem? hx
        obtain ⟨p, rfl⟩ : ∃ p : Nat, x = (p : Int) := ⟨x.toNat, by have := (unhide Hhk x hxm).1; omega⟩
        have c1 : wr.cell? ⟨kg, k, none⟩ = some (.int .i64 (p : Int)) := by
          have := unhide HKs k _ hx
          rw [Nat.zero_add] at this
          exact ((bcell (unhide HB)).1 kg k hkg).trans this
        have s1 : kg < wr.heap.size := by omega
        have HCx := hide (unhide HHC wr (unhide HB) _ hxm)
        have HTk : Hid ((n.Kids.take (min (k + 1) N)).map T = (n.Kids.take (min k N)).map T ++ [T (p : Int)]) := by
          show _ = _
          rw [show min (k + 1) N = k + 1 by omega, show min k N = k by omega, List.take_add_one, hx, List.map_append]
          rfl
        have jN : (k : Int) < (N : Int) := by omega
        have hfl : fs.length ≤ 10000 := by rw [unhide HFs]; simp; omega
        clear hx hxm
        generalize T (p : Int) = t at *
        go_wp2_with fail
        refine (unhide HCx).mono ?_
        rintro e w1 ⟨rfl, hb1⟩
        have HO1 := hide (bA_own t (ownB (unhide HO) hb1))
        have HX1 : Hid (Below (w.heap.size + 1) (w.alloc (.cells #[.int .i64 4, .int .i64 (N : Int), .int .i64 2, .string n.S, .string n.T, .slice (some ⟨kg, 0, none⟩) n.Kids.length n.Kids.length] 54)) w1) := (unhide HX).trans (hb1.mono hsz)
        have s31 : w.heap.size < w1.heap.size := Nat.lt_of_lt_of_le s3 hb1.size
        clear hb1 HCx
        go_wp2_with (at_builtin; refine wpList_append_lies _ rfl (.tmp 68) (.tmp 76) 37 rfl (w.heap.size + 1) 9 ti _ 1 16 Tryz.underlying37 hti hz0 hz1 hz2 rfl (by decide) _ fs.length (strs fs) rfl (unhide HO1).1 ⟨w1.heap.size, 0, none⟩ 1 1 (strs [t]) rfl rfl (unhide HO1).2 (strs_one [t]) (by decide) (by unfold maxLen; omega) (by omega) (by simp; omega) _ rfl ?_; intro g2 c2 w2 hown2 hgrow hat hlt2; have HBg := hide (own_grown (unhide HO1).1 hgrow (by simp; omega)))
        go_roundw
        case rel =>
          refine ⟨k + 1, fs ++ [t], by omega, by go_num, by rw [unhide HTk, unhide HFs], by rw [List.length_append, strs_app]; exact hown2, ?_, (((unhide HX1).alloc (by omega) _).trans (unhide HBg))⟩
          have := (unhide HBg).size
          simp at this
          omega
        case measure => simp [intOf]; omega
      · have jN : ¬ (k : Int) < (N : Int) := by omega
        go_wp2
        go_roundw
        case rel => exact ⟨k + 1, fs, by omega, by go_num, by rw [unhide HFs, show min (k + 1) N = min k N by omega], unhide HO, hsz, unhide HX⟩
        case measure => simp [intOf]; omega
    · obtain rfl : k = n.Kids.length := by omega
      have hfs : fs = (n.Kids.take N).map T := by rw [unhide HFs, show min n.Kids.length N = N by omega]
      have hfl : fs.length ≤ 10000 := by rw [hfs]; simp; omega
      have HHd : Hid ((strs fs ++ strs [[42]])[0]? = some (.string (mkS hd))) := by
        show _ = _
        rw [← strs_app]
        unfold strs
        rw [List.getElem?_map, hfs, unhide Hhhd]
        rfl
      clear hfs
      obtain ⟨r1, h1⟩ : ∃ r, ([40, 32, 83, 69, 76, 69, 67, 84, 32] : List UInt8) ++ ([67, 79, 85, 78, 84, 32, 40, 32] : List UInt8) = r := ⟨_, rfl⟩
      have l1 : r1.length ≤ 200000000 := by rw [← h1]; first | (simp; done) | (simp; omega)
      have A1 : ∀ w, (Op.stringOp .add ⟨#[40, 32, 83, 69, 76, 69, 67, 84, 32]⟩ ⟨#[67, 79, 85, 78, 84, 32, 40, 32]⟩).run Tryz.prog w = .ok (.string (mkS r1)) w := fun w => by rw [← h1]; exact cat_is Tryz.prog w ([40, 32, 83, 69, 76, 69, 67, 84, 32] : List UInt8) ([67, 79, 85, 78, 84, 32, 40, 32] : List UInt8) (by first | omega | (simp; done) | (simp; omega))
      obtain ⟨r2, h2⟩ : ∃ r, r1 ++ hd = r := ⟨_, rfl⟩
      have l2 : r2.length ≤ 400000000 := by rw [← h2]; first | (simp; done) | (simp; omega)
      have A2 : ∀ w, (Op.stringOp .add (mkS r1) (mkS hd)).run Tryz.prog w = .ok (.string (mkS r2)) w := fun w => by rw [← h2]; exact cat_is Tryz.prog w r1 hd (by first | omega | (simp; done) | (simp; omega))
      obtain ⟨r3, h3⟩ : ∃ r, r2 ++ ([32, 41, 32] : List UInt8) = r := ⟨_, rfl⟩
      have l3 : r3.length ≤ 600000000 := by rw [← h3]; first | (simp; done) | (simp; omega)
      have A3 : ∀ w, (Op.stringOp .add (mkS r2) ⟨#[32, 41, 32]⟩).run Tryz.prog w = .ok (.string (mkS r3)) w := fun w => by rw [← h3]; exact cat_is Tryz.prog w r2 ([32, 41, 32] : List UInt8) (by first | omega | (simp; done) | (simp; omega))
      obtain ⟨r4, h4⟩ : ∃ r, r3 ++ bl = r := ⟨_, rfl⟩
      have l4 : r4.length ≤ 800000000 := by rw [← h4]; first | (simp; done) | (simp; omega)
      have A4 : ∀ w, (Op.stringOp .add (mkS r3) (mkS bl)).run Tryz.prog w = .ok (.string (mkS r4)) w := fun w => by rw [← h4]; exact cat_is Tryz.prog w r3 bl (by first | omega | (simp; done) | (simp; omega))
      obtain ⟨r5, h5⟩ : ∃ r, r4 ++ ([32, 41] : List UInt8) = r := ⟨_, rfl⟩
      have l5 : r5.length ≤ 1000000000 := by rw [← h5]; first | (simp; done) | (simp; omega)
      have A5 : ∀ w, (Op.stringOp .add (mkS r4) ⟨#[32, 41]⟩).run Tryz.prog w = .ok (.string (mkS r5)) w := fun w => by rw [← h5]; exact cat_is Tryz.prog w r4 ([32, 41] : List UInt8) (by first | omega | (simp; done) | (simp; omega))
      have HZ : Hid ([40, 32, 83, 69, 76, 69, 67, 84, 32] ++ [67, 79, 85, 78, 84, 32, 40, 32] ++ hd ++ [32, 41, 32] ++ bl ++ [32, 41] = r5) := by
        show _ = _
        rw [← h5, ← h4, ← h3, ← h2, ← h1]
      clear h1 l1 h2 l2 h3 l3 h4 l4 h5 l5
      have HO1 := hide (bA_own [42] (unhide HO))
      go_wp2_with (at_builtin; refine wpList_append_lies _ rfl (.tmp 108) (.tmp 109) 37 rfl (w.heap.size + 1) 9 ti _ 1 16 Tryz.underlying37 hti hz0 hz1 hz2 rfl (by decide) _ fs.length (strs fs) rfl (unhide HO1).1 ⟨wr.heap.size, 0, none⟩ 1 1 (strs [[42]]) rfl rfl (unhide HO1).2 (strs_one [[42]]) (by decide) (by unfold maxLen; omega) (by omega) (by simp; omega) _ rfl ?_; intro g2 c2 w2 hown2 hgrow hat hlt2; have HBg := hide (own_grown (unhide HO1).1 hgrow (by simp; omega)); have HOw := hide hown2; obtain ⟨hcc, hcd, hg2⟩ := ownC hown2; clear hown2 hgrow hat)
      have HB2 : Hid (Below w.heap.size w w2) := (bA (unhide HB) _).trans ((unhide HBg).mono (by omega))
      refine (l2Join_calls [hd] [] g2 c2 w2 hg2 (fun j t hj => ?_) (by simp) (by simp; omega) (by simp)).mono ?_
      · match j, hj with
        | 0, hj => simp at hj; subst hj; rw [(unhide HOw).cellAt 0 (by omega)]; exact unhide HHd
      rintro e w3 ⟨rfl, rfl⟩
      rw [Lib.join_one]
      go_wp2_with fail
      refine (unhide HHBk _ (unhide HB2)).mono ?_
      rintro e w4 ⟨rfl, hb4⟩
      have HB4 := hide (bT (unhide HB2) hb4)
      clear hb4
      go_wp2
      go_returns
      refine ⟨?_, unhide HB4⟩
      rw [← unhide HZ0, unhide HZ]
      rfl
set_option maxRecDepth 100000 in
set_option maxHeartbeats 8000000 in
theorem text_43 (ns : List Nd) (g cap i : Nat) (n : Nd) (w : World) (_ : g < w.heap.size) (hn : NodesAt w g 0 ns) (hni : ns[i]? = some n) (hK : n.K = 4) (N : Nat) (hN : n.N = (N : Int)) (hNhi : N ≤ n.Kids.length) (hM : n.M = 3) (hm : n.Kids.length ≤ 10000) (hk : ∀ x ∈ n.Kids, 0 ≤ x ∧ x < (ns.length : Int)) (T : Int → List UInt8) (HC : ∀ W, Below w.heap.size w W → ∀ x ∈ n.Kids, Calls Tryz.prog 11 #[.slice (some ⟨g, 0, none⟩) ns.length cap, .int .i64 x] W fun e w' => e = .returned (.string (mkS (T x))) ∧ Below W.heap.size W w') (bl : List UInt8) (hbl : bl.length ≤ 150000000) (HBk : ∀ W, Below w.heap.size w W → Calls Tryz.prog 26 #[.slice (some ⟨g, 0, none⟩) ns.length cap, .int .i64 (i : Int)] W fun e w' => e = .returned (.string (mkS bl)) ∧ Below W.heap.size W w') (hd : List UInt8) (hhl : hd.length ≤ 5000000) (hhd : ((n.Kids.take N).map T ++ [[42]])[0]? = some hd) :
    Calls Tryz.prog 11 #[.slice (some ⟨g, 0, none⟩) ns.length cap, .int .i64 (i : Int)] w fun e w' => e = .returned (.string (mkS ([40, 32, 83, 69, 76, 69, 67, 84, 32] ++ [77, 73, 78, 32, 40, 32] ++ hd ++ [32, 41, 32] ++ bl ++ [32, 41]))) ∧ Below w.heap.size w w' := by
  obtain ⟨ti, hti, hz⟩ := Option.map_eq_some_iff.1 (show (Tryz.prog.info? 9).map (fun i => (i.zero, i.size, i.bytes)) = some (some (.string ByteArray.empty), 1, 16) by kernel_rfl)
  simp only [Prod.mk.injEq] at hz
  obtain ⟨hz0, hz1, hz2⟩ := hz
  have hi : i < ns.length := (List.getElem?_eq_some_iff.1 hni).1
  obtain ⟨⟨x0, x1, x2, x3, x4⟩, kg, x5, _, hkg, hks⟩ := hn i n hni
  simp only [Nat.zero_add] at x0 x1 x2 x3 x4 x5
  rw [hK] at x0
  rw [hM] at x2
  rw [hN] at x1
  have j0 : (i : Int) < (ns.length : Int) := by omega
  obtain ⟨Z, hZ⟩ : ∃ Z : List UInt8, [40, 32, 83, 69, 76, 69, 67, 84, 32] ++ [77, 73, 78, 32, 40, 32] ++ hd ++ [32, 41, 32] ++ bl ++ [32, 41] = Z := ⟨_, rfl⟩
  rw [hZ]
  have HZ0 := hide hZ
  clear hZ
  have Hhk := hide hk
  have HHC := hide HC
  have HHBk := hide HBk
  have Hhhd := hide hhd
  have HN := hide hn
  have HKs := hide hks
  clear hn hks hni hk HC HBk hhd
  go_enter Tryz.func11, Tryz.ntmps11
  go_wp2
  go_loopw [6, 7] (fun v c wr => ∃ (k : Nat) (fs : List (List UInt8)), k ≤ n.Kids.length ∧ c = .int .i64 k ∧ fs = (n.Kids.take (min k N)).map T ∧ wr.ownsRow (w.heap.size + 1) 9 1 v fs.length (strs fs) ∧ w.heap.size + 1 ≤ wr.heap.size ∧ Below (w.heap.size + 1) (w.alloc (.cells #[.int .i64 4, .int .i64 (N : Int), .int .i64 3, .string n.S, .string n.T, .slice (some ⟨kg, 0, none⟩) n.Kids.length n.Kids.length] 54)) wr) (fun _ c _ => n.Kids.length - (intOf c).toNat)
  case atStart => exact ⟨0, [], Nat.zero_le _, rfl, by simp, own_new _ _ (by simp), by simp, (Below.refl _ _).alloc (by simp) _⟩
  case round =>
    obtain ⟨k, fs, hk2, rfl, hfs, hown, hsz, hbx⟩ := hrel
    have HO := hide hown; have HX := hide hbx; have HFs := hide hfs
    have HB : Hid (Below w.heap.size w wr) := (bA (Below.refl _ _) _).trans (hbx.mono (Nat.le_succ _))
    have b0 : wr.cell? ⟨w.heap.size, 0, none⟩ = some (.int .i64 4) := (hbx.cell (p := ⟨w.heap.size, 0, none⟩) (Nat.lt_succ_self _)).trans (by simp [go_sem])
    have b1 : wr.cell? ⟨w.heap.size, 1, none⟩ = some (.int .i64 (N : Int)) := (hbx.cell (p := ⟨w.heap.size, 1, none⟩) (Nat.lt_succ_self _)).trans (by simp [go_sem])
    have b2 : wr.cell? ⟨w.heap.size, 2, none⟩ = some (.int .i64 3) := (hbx.cell (p := ⟨w.heap.size, 2, none⟩) (Nat.lt_succ_self _)).trans (by simp [go_sem])
    have b3 : wr.cell? ⟨w.heap.size, 3, none⟩ = some (.string n.S) := (hbx.cell (p := ⟨w.heap.size, 3, none⟩) (Nat.lt_succ_self _)).trans (by simp [go_sem])
    have b4 : wr.cell? ⟨w.heap.size, 4, none⟩ = some (.string n.T) := (hbx.cell (p := ⟨w.heap.size, 4, none⟩) (Nat.lt_succ_self _)).trans (by simp [go_sem])
    have b5 : wr.cell? ⟨w.heap.size, 5, none⟩ = some (.slice (some ⟨kg, 0, none⟩) n.Kids.length n.Kids.length) := (hbx.cell (p := ⟨w.heap.size, 5, none⟩) (Nat.lt_succ_self _)).trans (by simp [go_sem])
    clear hown hbx hfs
    have s3 : w.heap.size < wr.heap.size := by omega
    by_cases hlt : k < n.Kids.length
    · have j1 : (k : Int) < (n.Kids.length : Int) := by omega
      by_cases hkN : k < N
      · skip
        obtain ⟨x, hx⟩ : ∃ x, n.Kids[k]? = some x := ⟨n.Kids[k], List.getElem?_eq_getElem hlt⟩
        have hxm : x ∈ n.Kids := List.mem_of_getElem? hx
        obtain ⟨p, rfl⟩ : ∃ p : Nat, x = (p : Int) := ⟨x.toNat, by have := (unhide Hhk x hxm).1; omega⟩
        have c1 : wr.cell? ⟨kg, k, none⟩ = some (.int .i64 (p : Int)) := by
          have := unhide HKs k _ hx
          rw [Nat.zero_add] at this
          exact ((bcell (unhide HB)).1 kg k hkg).trans this
        have s1 : kg < wr.heap.size := by omega
        have HCx := hide (unhide HHC wr (unhide HB) _ hxm)
        have HTk : Hid ((n.Kids.take (min (k + 1) N)).map T = (n.Kids.take (min k N)).map T ++ [T (p : Int)]) := by
          show _ = _
          rw [show min (k + 1) N = k + 1 by omega, show min k N = k by omega, List.take_add_one, hx, List.map_append]
          rfl
        have jN : (k : Int) < (N : Int) := by omega
        have hfl : fs.length ≤ 10000 := by rw [unhide HFs]; simp; omega
        clear hx hxm
        generalize T (p : Int) = t at *
        go_wp2_with fail
        refine (unhide HCx).mono ?_
        rintro e w1 ⟨rfl, hb1⟩
        have HO1 := hide (bA_own t (ownB (unhide HO) hb1))
        have HX1 : Hid (Below (w.heap.size + 1) (w.alloc (.cells #[.int .i64 4, .int .i64 (N : Int), .int .i64 3, .string n.S, .string n.T, .slice (some ⟨kg, 0, none⟩) n.Kids.length n.Kids.length] 54)) w1) := (unhide HX).trans (hb1.mono hsz)
        have s31 : w.heap.size < w1.heap.size := Nat.lt_of_lt_of_le s3 hb1.size
        clear hb1 HCx
        go_wp2_with (at_builtin; refine wpList_append_lies _ rfl (.tmp 68) (.tmp 76) 37 rfl (w.heap.size + 1) 9 ti _ 1 16 Tryz.underlying37 hti hz0 hz1 hz2 rfl (by decide) _ fs.length (strs fs) rfl (unhide HO1).1 ⟨w1.heap.size, 0, none⟩ 1 1 (strs [t]) rfl rfl (unhide HO1).2 (strs_one [t]) (by decide) (by unfold maxLen; omega) (by omega) (by simp; omega) _ rfl ?_; intro g2 c2 w2 hown2 hgrow hat hlt2; have HBg := hide (own_grown (unhide HO1).1 hgrow (by simp; omega)))
        go_roundw
        case rel =>
          refine ⟨k + 1, fs ++ [t], by omega, by go_num, by rw [unhide HTk, unhide HFs], by rw [List.length_append, strs_app]; exact hown2, ?_, (((unhide HX1).alloc (by omega) _).trans (unhide HBg))⟩
          have := (unhide HBg).size
          simp at this
          omega
        case measure => simp [intOf]; omega
      · have jN : ¬ (k : Int) < (N : Int) := by omega
        go_wp2
        go_roundw
        case rel => exact ⟨k + 1, fs, by omega, by go_num, by rw [unhide HFs, show min (k + 1) N = min k N by omega], unhide HO, hsz, unhide HX⟩
        case measure => simp [intOf]; omega
    · obtain rfl : k = n.Kids.length := by omega
      have hfs : fs = (n.Kids.take N).map T := by rw [unhide HFs, show min n.Kids.length N = N by omega]
      have hfl : fs.length ≤ 10000 := by rw [hfs]; simp; omega
      have HHd : Hid ((strs fs ++ strs [[42]])[0]? = some (.string (mkS hd))) := by
        show _ = _
        rw [← strs_app]
        unfold strs
        rw [List.getElem?_map, hfs, unhide Hhhd]
        rfl
      clear hfs
      obtain ⟨r1, h1⟩ : ∃ r, ([40, 32, 83, 69, 76, 69, 67, 84, 32] : List UInt8) ++ ([77, 73, 78, 32, 40, 32] : List UInt8) = r := ⟨_, rfl⟩
      have l1 : r1.length ≤ 200000000 := by rw [← h1]; first | (simp; done) | (simp; omega)
      have A1 : ∀ w, (Op.stringOp .add ⟨#[40, 32, 83, 69, 76, 69, 67, 84, 32]⟩ ⟨#[77, 73, 78, 32, 40, 32]⟩).run Tryz.prog w = .ok (.string (mkS r1)) w := fun w => by rw [← h1]; exact cat_is Tryz.prog w ([40, 32, 83, 69, 76, 69, 67, 84, 32] : List UInt8) ([77, 73, 78, 32, 40, 32] : List UInt8) (by first | omega | (simp; done) | (simp; omega))
      obtain ⟨r2, h2⟩ : ∃ r, r1 ++ hd = r := ⟨_, rfl⟩
      have l2 : r2.length ≤ 400000000 := by rw [← h2]; first | (simp; done) | (simp; omega)
      have A2 : ∀ w, (Op.stringOp .add (mkS r1) (mkS hd)).run Tryz.prog w = .ok (.string (mkS r2)) w := fun w => by rw [← h2]; exact cat_is Tryz.prog w r1 hd (by first | omega | (simp; done) | (simp; omega))
      obtain ⟨r3, h3⟩ : ∃ r, r2 ++ ([32, 41, 32] : List UInt8) = r := ⟨_, rfl⟩
      have l3 : r3.length ≤ 600000000 := by rw [← h3]; first | (simp; done) | (simp; omega)
      have A3 : ∀ w, (Op.stringOp .add (mkS r2) ⟨#[32, 41, 32]⟩).run Tryz.prog w = .ok (.string (mkS r3)) w := fun w => by rw [← h3]; exact cat_is Tryz.prog w r2 ([32, 41, 32] : List UInt8) (by first | omega | (simp; done) | (simp; omega))
      obtain ⟨r4, h4⟩ : ∃ r, r3 ++ bl = r := ⟨_, rfl⟩
      have l4 : r4.length ≤ 800000000 := by rw [← h4]; first | (simp; done) | (simp; omega)
      have A4 : ∀ w, (Op.stringOp .add (mkS r3) (mkS bl)).run Tryz.prog w = .ok (.string (mkS r4)) w := fun w => by rw [← h4]; exact cat_is Tryz.prog w r3 bl (by first | omega | (simp; done) | (simp; omega))
      obtain ⟨r5, h5⟩ : ∃ r, r4 ++ ([32, 41] : List UInt8) = r := ⟨_, rfl⟩
      have l5 : r5.length ≤ 1000000000 := by rw [← h5]; first | (simp; done) | (simp; omega)
      have A5 : ∀ w, (Op.stringOp .add (mkS r4) ⟨#[32, 41]⟩).run Tryz.prog w = .ok (.string (mkS r5)) w := fun w => by rw [← h5]; exact cat_is Tryz.prog w r4 ([32, 41] : List UInt8) (by first | omega | (simp; done) | (simp; omega))
      have HZ : Hid ([40, 32, 83, 69, 76, 69, 67, 84, 32] ++ [77, 73, 78, 32, 40, 32] ++ hd ++ [32, 41, 32] ++ bl ++ [32, 41] = r5) := by
        show _ = _
        rw [← h5, ← h4, ← h3, ← h2, ← h1]
      clear h1 l1 h2 l2 h3 l3 h4 l4 h5 l5
      have HO1 := hide (bA_own [42] (unhide HO))
      go_wp2_with (at_builtin; refine wpList_append_lies _ rfl (.tmp 108) (.tmp 109) 37 rfl (w.heap.size + 1) 9 ti _ 1 16 Tryz.underlying37 hti hz0 hz1 hz2 rfl (by decide) _ fs.length (strs fs) rfl (unhide HO1).1 ⟨wr.heap.size, 0, none⟩ 1 1 (strs [[42]]) rfl rfl (unhide HO1).2 (strs_one [[42]]) (by decide) (by unfold maxLen; omega) (by omega) (by simp; omega) _ rfl ?_; intro g2 c2 w2 hown2 hgrow hat hlt2; have HBg := hide (own_grown (unhide HO1).1 hgrow (by simp; omega)); have HOw := hide hown2; obtain ⟨hcc, hcd, hg2⟩ := ownC hown2; clear hown2 hgrow hat)
      have HB2 : Hid (Below w.heap.size w w2) := (bA (unhide HB) _).trans ((unhide HBg).mono (by omega))
      refine (l2Join_calls [hd] [] g2 c2 w2 hg2 (fun j t hj => ?_) (by simp) (by simp; omega) (by simp)).mono ?_
      · match j, hj with
        | 0, hj => simp at hj; subst hj; rw [(unhide HOw).cellAt 0 (by omega)]; exact unhide HHd
      rintro e w3 ⟨rfl, rfl⟩
      rw [Lib.join_one]
      go_wp2_with fail
      refine (unhide HHBk _ (unhide HB2)).mono ?_
      rintro e w4 ⟨rfl, hb4⟩
      have HB4 := hide (bT (unhide HB2) hb4)
      clear hb4
      go_wp2
      go_returns
      refine ⟨?_, unhide HB4⟩
      rw [← unhide HZ0, unhide HZ]
      rfl
set_option maxRecDepth 100000 in
set_option maxHeartbeats 8000000 in
theorem text_44 (ns : List Nd) (g cap i : Nat) (n : Nd) (w : World) (_ : g < w.heap.size) (hn : NodesAt w g 0 ns) (hni : ns[i]? = some n) (hK : n.K = 4) (N : Nat) (hN : n.N = (N : Int)) (hNhi : N ≤ n.Kids.length) (hM : n.M = 4) (hm : n.Kids.length ≤ 10000) (hk : ∀ x ∈ n.Kids, 0 ≤ x ∧ x < (ns.length : Int)) (T : Int → List UInt8) (HC : ∀ W, Below w.heap.size w W → ∀ x ∈ n.Kids, Calls Tryz.prog 11 #[.slice (some ⟨g, 0, none⟩) ns.length cap, .int .i64 x] W fun e w' => e = .returned (.string (mkS (T x))) ∧ Below W.heap.size W w') (bl : List UInt8) (hbl : bl.length ≤ 150000000) (HBk : ∀ W, Below w.heap.size w W → Calls Tryz.prog 26 #[.slice (some ⟨g, 0, none⟩) ns.length cap, .int .i64 (i : Int)] W fun e w' => e = .returned (.string (mkS bl)) ∧ Below W.heap.size W w') (hd : List UInt8) (hhl : hd.length ≤ 5000000) (hhd : ((n.Kids.take N).map T ++ [[42]])[0]? = some hd) :
    Calls Tryz.prog 11 #[.slice (some ⟨g, 0, none⟩) ns.length cap, .int .i64 (i : Int)] w fun e w' => e = .returned (.string (mkS ([40, 32, 83, 69, 76, 69, 67, 84, 32] ++ [77, 65, 88, 32, 40, 32] ++ hd ++ [32, 41, 32] ++ bl ++ [32, 41]))) ∧ Below w.heap.size w w' := by
  obtain ⟨ti, hti, hz⟩ := Option.map_eq_some_iff.1 (show (Tryz.prog.info? 9).map (fun i => (i.zero, i.size, i.bytes)) = some (some (.string ByteArray.empty), 1, 16) by kernel_rfl)
  simp only [Prod.mk.injEq] at hz
  obtain ⟨hz0, hz1, hz2⟩ := hz
  have hi : i < ns.length := (List.getElem?_eq_some_iff.1 hni).1
  obtain ⟨⟨x0, x1, x2, x3, x4⟩, kg, x5, _, hkg, hks⟩ := hn i n hni
  simp only [Nat.zero_add] at x0 x1 x2 x3 x4 x5
  rw [hK] at x0
  rw [hM] at x2
  rw [hN] at x1
  have j0 : (i : Int) < (ns.length : Int) := by omega
  obtain ⟨Z, hZ⟩ : ∃ Z : List UInt8, [40, 32, 83, 69, 76, 69, 67, 84, 32] ++ [77, 65, 88, 32, 40, 32] ++ hd ++ [32, 41, 32] ++ bl ++ [32, 41] = Z := ⟨_, rfl⟩
  rw [hZ]
  have HZ0 := hide hZ
  clear hZ
  have Hhk := hide hk
  have HHC := hide HC
  have HHBk := hide HBk
  have Hhhd := hide hhd
  have HN := hide hn
  have HKs := hide hks
  clear hn hks hni hk HC HBk hhd
  go_enter Tryz.func11, Tryz.ntmps11
  go_wp2
  go_loopw [6, 7] (fun v c wr => ∃ (k : Nat) (fs : List (List UInt8)), k ≤ n.Kids.length ∧ c = .int .i64 k ∧ fs = (n.Kids.take (min k N)).map T ∧ wr.ownsRow (w.heap.size + 1) 9 1 v fs.length (strs fs) ∧ w.heap.size + 1 ≤ wr.heap.size ∧ Below (w.heap.size + 1) (w.alloc (.cells #[.int .i64 4, .int .i64 (N : Int), .int .i64 4, .string n.S, .string n.T, .slice (some ⟨kg, 0, none⟩) n.Kids.length n.Kids.length] 54)) wr) (fun _ c _ => n.Kids.length - (intOf c).toNat)
  case atStart => exact ⟨0, [], Nat.zero_le _, rfl, by simp, own_new _ _ (by simp), by simp, (Below.refl _ _).alloc (by simp) _⟩
  case round =>
    obtain ⟨k, fs, hk2, rfl, hfs, hown, hsz, hbx⟩ := hrel
    have HO := hide hown; have HX := hide hbx; have HFs := hide hfs
    have HB : Hid (Below w.heap.size w wr) := (bA (Below.refl _ _) _).trans (hbx.mono (Nat.le_succ _))
    have b0 : wr.cell? ⟨w.heap.size, 0, none⟩ = some (.int .i64 4) := (hbx.cell (p := ⟨w.heap.size, 0, none⟩) (Nat.lt_succ_self _)).trans (by simp [go_sem])
    have b1 : wr.cell? ⟨w.heap.size, 1, none⟩ = some (.int .i64 (N : Int)) := (hbx.cell (p := ⟨w.heap.size, 1, none⟩) (Nat.lt_succ_self _)).trans (by simp [go_sem])
    have b2 : wr.cell? ⟨w.heap.size, 2, none⟩ = some (.int .i64 4) := (hbx.cell (p := ⟨w.heap.size, 2, none⟩) (Nat.lt_succ_self _)).trans (by simp [go_sem])
    have b3 : wr.cell? ⟨w.heap.size, 3, none⟩ = some (.string n.S) := (hbx.cell (p := ⟨w.heap.size, 3, none⟩) (Nat.lt_succ_self _)).trans (by simp [go_sem])
    have b4 : wr.cell? ⟨w.heap.size, 4, none⟩ = some (.string n.T) := (hbx.cell (p := ⟨w.heap.size, 4, none⟩) (Nat.lt_succ_self _)).trans (by simp [go_sem])
    have b5 : wr.cell? ⟨w.heap.size, 5, none⟩ = some (.slice (some ⟨kg, 0, none⟩) n.Kids.length n.Kids.length) := (hbx.cell (p := ⟨w.heap.size, 5, none⟩) (Nat.lt_succ_self _)).trans (by simp [go_sem])
    clear hown hbx hfs
    have s3 : w.heap.size < wr.heap.size := by omega
    by_cases hlt : k < n.Kids.length
    · have j1 : (k : Int) < (n.Kids.length : Int) := by omega
      by_cases hkN : k < N
      · skip
        obtain ⟨x, hx⟩ : ∃ x, n.Kids[k]? = some x := ⟨n.Kids[k], List.getElem?_eq_getElem hlt⟩
        have hxm : x ∈ n.Kids := List.mem_of_getElem? hx
        obtain ⟨p, rfl⟩ : ∃ p : Nat, x = (p : Int) := ⟨x.toNat, by have := (unhide Hhk x hxm).1; omega⟩
        have c1 : wr.cell? ⟨kg, k, none⟩ = some (.int .i64 (p : Int)) := by
          have := unhide HKs k _ hx
          rw [Nat.zero_add] at this
          exact ((bcell (unhide HB)).1 kg k hkg).trans this
        have s1 : kg < wr.heap.size := by omega
        have HCx := hide (unhide HHC wr (unhide HB) _ hxm)
        have HTk : Hid ((n.Kids.take (min (k + 1) N)).map T = (n.Kids.take (min k N)).map T ++ [T (p : Int)]) := by
          show _ = _
          rw [show min (k + 1) N = k + 1 by omega, show min k N = k by omega, List.take_add_one, hx, List.map_append]
          rfl
        have jN : (k : Int) < (N : Int) := by omega
        have hfl : fs.length ≤ 10000 := by rw [unhide HFs]; simp; omega
        clear hx hxm
        generalize T (p : Int) = t at *
        go_wp2_with fail
        refine (unhide HCx).mono ?_
        rintro e w1 ⟨rfl, hb1⟩
        have HO1 := hide (bA_own t (ownB (unhide HO) hb1))
        have HX1 : Hid (Below (w.heap.size + 1) (w.alloc (.cells #[.int .i64 4, .int .i64 (N : Int), .int .i64 4, .string n.S, .string n.T, .slice (some ⟨kg, 0, none⟩) n.Kids.length n.Kids.length] 54)) w1) := (unhide HX).trans (hb1.mono hsz)
        have s31 : w.heap.size < w1.heap.size := Nat.lt_of_lt_of_le s3 hb1.size
        clear hb1 HCx
        go_wp2_with (at_builtin; refine wpList_append_lies _ rfl (.tmp 68) (.tmp 76) 37 rfl (w.heap.size + 1) 9 ti _ 1 16 Tryz.underlying37 hti hz0 hz1 hz2 rfl (by decide) _ fs.length (strs fs) rfl (unhide HO1).1 ⟨w1.heap.size, 0, none⟩ 1 1 (strs [t]) rfl rfl (unhide HO1).2 (strs_one [t]) (by decide) (by unfold maxLen; omega) (by omega) (by simp; omega) _ rfl ?_; intro g2 c2 w2 hown2 hgrow hat hlt2; have HBg := hide (own_grown (unhide HO1).1 hgrow (by simp; omega)))
        go_roundw
        case rel =>
          refine ⟨k + 1, fs ++ [t], by omega, by go_num, by rw [unhide HTk, unhide HFs], by rw [List.length_append, strs_app]; exact hown2, ?_, (((unhide HX1).alloc (by omega) _).trans (unhide HBg))⟩
          have := (unhide HBg).size
          simp at this
          omega
        case measure => simp [intOf]; omega
      · have jN : ¬ (k : Int) < (N : Int) := by omega
        go_wp2
        go_roundw
        case rel => exact ⟨k + 1, fs, by omega, by go_num, by rw [unhide HFs, show min (k + 1) N = min k N by omega], unhide HO, hsz, unhide HX⟩
        case measure => simp [intOf]; omega
    · obtain rfl : k = n.Kids.length := by omega
      have hfs : fs = (n.Kids.take N).map T := by rw [unhide HFs, show min n.Kids.length N = N by omega]
      have hfl : fs.length ≤ 10000 := by rw [hfs]; simp; omega
      have HHd : Hid ((strs fs ++ strs [[42]])[0]? = some (.string (mkS hd))) := by
        show _ = _
        rw [← strs_app]
        unfold strs
        rw [List.getElem?_map, hfs, unhide Hhhd]
        rfl
      clear hfs
      obtain ⟨r1, h1⟩ : ∃ r, ([40, 32, 83, 69, 76, 69, 67, 84, 32] : List UInt8) ++ ([77, 65, 88, 32, 40, 32] : List UInt8) = r := ⟨_, rfl⟩
      have l1 : r1.length ≤ 200000000 := by rw [← h1]; first | (simp; done) | (simp; omega)
      have A1 : ∀ w, (Op.stringOp .add ⟨#[40, 32, 83, 69, 76, 69, 67, 84, 32]⟩ ⟨#[77, 65, 88, 32, 40, 32]⟩).run Tryz.prog w = .ok (.string (mkS r1)) w := fun w => by rw [← h1]; exact cat_is Tryz.prog w ([40, 32, 83, 69, 76, 69, 67, 84, 32] : List UInt8) ([77, 65, 88, 32, 40, 32] : List UInt8) (by first | omega | (simp; done) | (simp; omega))
      obtain ⟨r2, h2⟩ : ∃ r, r1 ++ hd = r := ⟨_, rfl⟩
      have l2 : r2.length ≤ 400000000 := by rw [← h2]; first | (simp; done) | (simp; omega)
      have A2 : ∀ w, (Op.stringOp .add (mkS r1) (mkS hd)).run Tryz.prog w = .ok (.string (mkS r2)) w := fun w => by rw [← h2]; exact cat_is Tryz.prog w r1 hd (by first | omega | (simp; done) | (simp; omega))
      obtain ⟨r3, h3⟩ : ∃ r, r2 ++ ([32, 41, 32] : List UInt8) = r := ⟨_, rfl⟩
      have l3 : r3.length ≤ 600000000 := by rw [← h3]; first | (simp; done) | (simp; omega)
      have A3 : ∀ w, (Op.stringOp .add (mkS r2) ⟨#[32, 41, 32]⟩).run Tryz.prog w = .ok (.string (mkS r3)) w := fun w => by rw [← h3]; exact cat_is Tryz.prog w r2 ([32, 41, 32] : List UInt8) (by first | omega | (simp; done) | (simp; omega))
      obtain ⟨r4, h4⟩ : ∃ r, r3 ++ bl = r := ⟨_, rfl⟩
      have l4 : r4.length ≤ 800000000 := by rw [← h4]; first | (simp; done) | (simp; omega)
      have A4 : ∀ w, (Op.stringOp .add (mkS r3) (mkS bl)).run Tryz.prog w = .ok (.string (mkS r4)) w := fun w => by rw [← h4]; exact cat_is Tryz.prog w r3 bl (by first | omega | (simp; done) | (simp; omega))
      obtain ⟨r5, h5⟩ : ∃ r, r4 ++ ([32, 41] : List UInt8) = r := ⟨_, rfl⟩
      have l5 : r5.length ≤ 1000000000 := by rw [← h5]; first | (simp; done) | (simp; omega)
      have A5 : ∀ w, (Op.stringOp .add (mkS r4) ⟨#[32, 41]⟩).run Tryz.prog w = .ok (.string (mkS r5)) w := fun w => by rw [← h5]; exact cat_is Tryz.prog w r4 ([32, 41] : List UInt8) (by first | omega | (simp; done) | (simp; omega))
      have HZ : Hid ([40, 32, 83, 69, 76, 69, 67, 84, 32] ++ [77, 65, 88, 32, 40, 32] ++ hd ++ [32, 41, 32] ++ bl ++ [32, 41] = r5) := by
        show _ = _
        rw [← h5, ← h4, ← h3, ← h2, ← h1]
      clear h1 l1 h2 l2 h3 l3 h4 l4 h5 l5
      have HO1 := hide (bA_own [42] (unhide HO))
      go_wp2_with (at_builtin; refine wpList_append_lies _ rfl (.tmp 108) (.tmp 109) 37 rfl (w.heap.size + 1) 9 ti _ 1 16 Tryz.underlying37 hti hz0 hz1 hz2 rfl (by decide) _ fs.length (strs fs) rfl (unhide HO1).1 ⟨wr.heap.size, 0, none⟩ 1 1 (strs [[42]]) rfl rfl (unhide HO1).2 (strs_one [[42]]) (by decide) (by unfold maxLen; omega) (by omega) (by simp; omega) _ rfl ?_; intro g2 c2 w2 hown2 hgrow hat hlt2; have HBg := hide (own_grown (unhide HO1).1 hgrow (by simp; omega)); have HOw := hide hown2; obtain ⟨hcc, hcd, hg2⟩ := ownC hown2; clear hown2 hgrow hat)
      have HB2 : Hid (Below w.heap.size w w2) := (bA (unhide HB) _).trans ((unhide HBg).mono (by omega))
      refine (l2Join_calls [hd] [] g2 c2 w2 hg2 (fun j t hj => ?_) (by simp) (by simp; omega) (by simp)).mono ?_
      · match j, hj with
        | 0, hj => simp at hj; subst hj; rw [(unhide HOw).cellAt 0 (by omega)]; exact unhide HHd
      rintro e w3 ⟨rfl, rfl⟩
      rw [Lib.join_one]
      go_wp2_with fail
      refine (unhide HHBk _ (unhide HB2)).mono ?_
      rintro e w4 ⟨rfl, hb4⟩
      have HB4 := hide (bT (unhide HB2) hb4)
      clear hb4
      go_wp2
      go_returns
      refine ⟨?_, unhide HB4⟩
      rw [← unhide HZ0, unhide HZ]
      rfl
end Go.Proofs.YtmcbmmpjhijagaaGreatDoor
