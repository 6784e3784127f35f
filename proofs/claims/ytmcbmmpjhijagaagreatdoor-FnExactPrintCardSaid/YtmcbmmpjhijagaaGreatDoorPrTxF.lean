import Derived.Test.YtmcbmmpjhijagaaGreatDoorPrTxB
namespace Go.Proofs.YtmcbmmpjhijagaaGreatDoor
open Go Go.RowKit
set_option maxRecDepth 100000 in
set_option maxHeartbeats 8000000 in
theorem text_6n (ns : List Nd) (g cap i : Nat) (n : Nd) (w : World) (_ : g < w.heap.size) (hn : NodesAt w g 0 ns) (hni : ns[i]? = some n) (hK : n.K = 6) (N : Nat) (hN : n.N = (N : Int)) (hNlo : 1 ≤ N) (hNhi : N ≤ n.Kids.length) (hM : n.M = 0) (hm : n.Kids.length ≤ 10000) (hk : ∀ x ∈ n.Kids, 0 ≤ x ∧ x < (ns.length : Int)) (T : Int → List UInt8) (hsum : (n.Kids.map fun x => (T x).length + 20).sum ≤ 100000000) (HC : ∀ W, Below w.heap.size w W → ∀ x ∈ n.Kids, Calls Tryz.prog 11 #[.slice (some ⟨g, 0, none⟩) ns.length cap, .int .i64 x] W fun e w' => e = .returned (.string (mkS (T x))) ∧ Below W.heap.size W w') (bl : List UInt8) (hbl : bl.length ≤ 150000000) (HBk : ∀ W, Below w.heap.size w W → Calls Tryz.prog 26 #[.slice (some ⟨g, 0, none⟩) ns.length cap, .int .i64 (i : Int)] W fun e w' => e = .returned (.string (mkS bl)) ∧ Below W.heap.size W w') :
    Calls Tryz.prog 11 #[.slice (some ⟨g, 0, none⟩) ns.length cap, .int .i64 (i : Int)] w fun e w' => e = .returned (.string (mkS ([83, 69, 76, 69, 67, 84, 32] ++ Lib.join ((n.Kids.take N).map T) [32, 44, 32] ++ [32] ++ bl))) ∧ Below w.heap.size w w' := by
  obtain ⟨ti, hti, hz⟩ := Option.map_eq_some_iff.1 (show (Tryz.prog.info? 9).map (fun i => (i.zero, i.size, i.bytes)) = some (some (.string ByteArray.empty), 1, 16) by kernel_rfl)
  simp only [Prod.mk.injEq] at hz
  obtain ⟨hz0, hz1, hz2⟩ := hz
  have hi : i < ns.length := (List.getElem?_eq_some_iff.1 hni).1
  obtain ⟨⟨x0, x1, x2, x3, x4⟩, kg, x5, _, hkg, hks⟩ := hn i n hni
  simp only [Nat.zero_add] at x0 x1 x2 x3 x4 x5
  rw [hK] at x0
  rw [hM] at x2
  rw [hN] at x1
  have j0 : (i : Int) < (ns.length : Int) := by omega
  obtain ⟨Z, hZ⟩ : ∃ Z : List UInt8, [83, 69, 76, 69, 67, 84, 32] ++ Lib.join ((n.Kids.take N).map T) [32, 44, 32] ++ [32] ++ bl = Z := ⟨_, rfl⟩
  rw [hZ]
  have HZ0 := hide hZ
  clear hZ
  have Hhk := hide hk
  have Hhsum := hide hsum
  have HHC := hide HC
  have HHBk := hide HBk
  have HN := hide hn
  have HKs := hide hks
  clear hn hks hni hk hsum HC HBk
  go_enter Tryz.func11, Tryz.ntmps11
  go_wp2
  go_loopw [6, 7] (fun v c wr => ∃ (k : Nat) (fs : List (List UInt8)), k ≤ n.Kids.length ∧ c = .int .i64 k ∧ fs = (n.Kids.take (min k N)).map T ∧ wr.ownsRow (w.heap.size + 1) 9 1 v fs.length (strs fs) ∧ w.heap.size + 1 ≤ wr.heap.size ∧ Below (w.heap.size + 1) (w.alloc (.cells #[.int .i64 6, .int .i64 (N : Int), .int .i64 0, .string n.S, .string n.T, .slice (some ⟨kg, 0, none⟩) n.Kids.length n.Kids.length] 54)) wr) (fun _ c _ => n.Kids.length - (intOf c).toNat)
  case atStart => exact ⟨0, [], Nat.zero_le _, rfl, by simp, own_new _ _ (by simp), by simp, (Below.refl _ _).alloc (by simp) _⟩
  case round =>
    obtain ⟨k, fs, hk2, rfl, hfs, hown, hsz, hbx⟩ := hrel
    have HO := hide hown; have HX := hide hbx; have HFs := hide hfs
    have HB : Hid (Below w.heap.size w wr) := (bA (Below.refl _ _) _).trans (hbx.mono (Nat.le_succ _))
    have b0 : wr.cell? ⟨w.heap.size, 0, none⟩ = some (.int .i64 6) := (hbx.cell (p := ⟨w.heap.size, 0, none⟩) (Nat.lt_succ_self _)).trans (by simp [go_sem])
    have b1 : wr.cell? ⟨w.heap.size, 1, none⟩ = some (.int .i64 (N : Int)) := (hbx.cell (p := ⟨w.heap.size, 1, none⟩) (Nat.lt_succ_self _)).trans (by simp [go_sem])
    have b2 : wr.cell? ⟨w.heap.size, 2, none⟩ = some (.int .i64 0) := (hbx.cell (p := ⟨w.heap.size, 2, none⟩) (Nat.lt_succ_self _)).trans (by simp [go_sem])
    have b3 : wr.cell? ⟨w.heap.size, 3, none⟩ = some (.string n.S) := (hbx.cell (p := ⟨w.heap.size, 3, none⟩) (Nat.lt_succ_self _)).trans (by simp [go_sem])
    have b4 : wr.cell? ⟨w.heap.size, 4, none⟩ = some (.string n.T) := (hbx.cell (p := ⟨w.heap.size, 4, none⟩) (Nat.lt_succ_self _)).trans (by simp [go_sem])
    have b5 : wr.cell? ⟨w.heap.size, 5, none⟩ = some (.slice (some ⟨kg, 0, none⟩) n.Kids.length n.Kids.length) := (hbx.cell (p := ⟨w.heap.size, 5, none⟩) (Nat.lt_succ_self _)).trans (by simp [go_sem])
    clear hown hbx hfs
    have s3 : w.heap.size < wr.heap.size := by omega
    by_cases hlt : k < n.Kids.length
    · have j1 : (k : Int) < (n.Kids.length : Int) := by omega
      by_cases hkN : k < N
      · skip
        obtain ⟨x, hx⟩ : ∃ x, n.Kids[k]? = some x := ⟨n.Kids[k], List.getElem?_eq_getElem hlt⟩
        have hxm : x ∈ n.Kids := List.mem_of_getElem? hx
        obtain ⟨p, rfl⟩ : ∃ p : Nat, x = (p : Int) := ⟨x.toNat, by have := (unhide Hhk x hxm).1; omega⟩
        have c1 : wr.cell? ⟨kg, k, none⟩ = some (.int .i64 (p : Int)) := by
          have := unhide HKs k _ hx
          rw [Nat.zero_add] at this
          exact ((bcell (unhide HB)).1 kg k hkg).trans this
        have s1 : kg < wr.heap.size := by omega
        have HCx := hide (unhide HHC wr (unhide HB) _ hxm)
        have HTk : Hid ((n.Kids.take (min (k + 1) N)).map T = (n.Kids.take (min k N)).map T ++ [T (p : Int)]) := by
          show _ = _
          rw [show min (k + 1) N = k + 1 by omega, show min k N = k by omega, List.take_add_one, hx, List.map_append]
          rfl
        have jN : (k : Int) < (N : Int) := by omega
        have hfl : fs.length ≤ 10000 := by rw [unhide HFs]; simp; omega
        clear hx hxm
        generalize T (p : Int) = t at *
        go_wp2_with fail
        refine (unhide HCx).mono ?_
        rintro e w1 ⟨rfl, hb1⟩
        have HO1 := hide (bA_own t (ownB (unhide HO) hb1))
        have HX1 : Hid (Below (w.heap.size + 1) (w.alloc (.cells #[.int .i64 6, .int .i64 (N : Int), .int .i64 0, .string n.S, .string n.T, .slice (some ⟨kg, 0, none⟩) n.Kids.length n.Kids.length] 54)) w1) := (unhide HX).trans (hb1.mono hsz)
        have s31 : w.heap.size < w1.heap.size := Nat.lt_of_lt_of_le s3 hb1.size
        clear hb1 HCx
        go_wp2_with (at_builtin; refine wpList_append_lies _ rfl (.tmp 68) (.tmp 76) 37 rfl (w.heap.size + 1) 9 ti _ 1 16 Tryz.underlying37 hti hz0 hz1 hz2 rfl (by decide) _ fs.length (strs fs) rfl (unhide HO1).1 ⟨w1.heap.size, 0, none⟩ 1 1 (strs [t]) rfl rfl (unhide HO1).2 (strs_one [t]) (by decide) (by unfold maxLen; omega) (by omega) (by simp; omega) _ rfl ?_; intro g2 c2 w2 hown2 hgrow hat hlt2; have HBg := hide (own_grown (unhide HO1).1 hgrow (by simp; omega)))
        go_roundw
        case rel =>
          refine ⟨k + 1, fs ++ [t], by omega, by go_num, by rw [unhide HTk, unhide HFs], by rw [List.length_append, strs_app]; exact hown2, ?_, (((unhide HX1).alloc (by omega) _).trans (unhide HBg))⟩
          have := (unhide HBg).size
          simp at this
          omega
        case measure => simp [intOf]; omega
      · have jN : ¬ (k : Int) < (N : Int) := by omega
        go_wp2
        go_roundw
        case rel => exact ⟨k + 1, fs, by omega, by go_num, by rw [unhide HFs, show min (k + 1) N = min k N by omega], unhide HO, hsz, unhide HX⟩
        case measure => simp [intOf]; omega
    · obtain rfl : k = n.Kids.length := by omega
      have hfs : fs = (n.Kids.take N).map T := by rw [unhide HFs, show min n.Kids.length N = N by omega]
      have hpos : 0 < fs.length := by rw [hfs]; simp; omega
      have hsm : (fs.map fun t => t.length + 20).sum ≤ 100000000 := by
        have := unhide Hhsum
        have h2 := sum_take_leI (fun x => (T x).length + 20) n.Kids N
        rw [hfs, List.map_map]
        exact Nat.le_trans h2 this
      have hfl : fs.length ≤ 10000 := by rw [hfs]; simp; omega
      have hjl : (Lib.join fs [32, 44, 32]).length ≤ 100000000 := by
        refine Nat.le_trans (join_len _ _) (Nat.le_trans (sum_mono20 fs (s := 3) (by decide)) hsm)
      obtain ⟨g3, cap3, rfl, hg3, _, hc3⟩ := own_cells (unhide HO) hpos
      have HJ := hide (l2Join_calls fs [32, 44, 32] g3 cap3 wr hg3 hc3 (by omega) (by refine Nat.le_trans (sum_mono20 fs (s := 3) (by decide)) ?_; omega) (by simp))
      have HJe : Hid (Lib.join ((n.Kids.take N).map T) [32, 44, 32] = Lib.join fs [32, 44, 32]) := by rw [hfs]; exact rfl
      clear hfs hc3 hsm
      generalize Lib.join fs [32, 44, 32] = J at *
      obtain ⟨r1, h1⟩ : ∃ r, ([83, 69, 76, 69, 67, 84, 32] : List UInt8) ++ J = r := ⟨_, rfl⟩
      have l1 : r1.length ≤ 200000000 := by rw [← h1]; first | (simp; done) | (simp; omega)
      have A1 : ∀ w, (Op.stringOp .add ⟨#[83, 69, 76, 69, 67, 84, 32]⟩ (mkS J)).run Tryz.prog w = .ok (.string (mkS r1)) w := fun w => by rw [← h1]; exact cat_is Tryz.prog w ([83, 69, 76, 69, 67, 84, 32] : List UInt8) J (by first | omega | (simp; done) | (simp; omega))
      obtain ⟨r2, h2⟩ : ∃ r, r1 ++ ([32] : List UInt8) = r := ⟨_, rfl⟩
      have l2 : r2.length ≤ 400000000 := by rw [← h2]; first | (simp; done) | (simp; omega)
      have A2 : ∀ w, (Op.stringOp .add (mkS r1) ⟨#[32]⟩).run Tryz.prog w = .ok (.string (mkS r2)) w := fun w => by rw [← h2]; exact cat_is Tryz.prog w r1 ([32] : List UInt8) (by first | omega | (simp; done) | (simp; omega))
      obtain ⟨r3, h3⟩ : ∃ r, r2 ++ bl = r := ⟨_, rfl⟩
      have l3 : r3.length ≤ 600000000 := by rw [← h3]; first | (simp; done) | (simp; omega)
      have A3 : ∀ w, (Op.stringOp .add (mkS r2) (mkS bl)).run Tryz.prog w = .ok (.string (mkS r3)) w := fun w => by rw [← h3]; exact cat_is Tryz.prog w r2 bl (by first | omega | (simp; done) | (simp; omega))
      have HZ : Hid ([83, 69, 76, 69, 67, 84, 32] ++ Lib.join ((n.Kids.take N).map T) [32, 44, 32] ++ [32] ++ bl = r3) := by
        show _ = _
        rw [← h3, ← h2, ← h1, unhide HJe]
      clear h1 l1 h2 l2 h3 l3
      go_wp2_with fail
      refine (unhide HJ).mono ?_
      rintro e w1 ⟨rfl, rfl⟩
      go_wp2_with fail
      refine (unhide HHBk _ (unhide HB)).mono ?_
      rintro e w2 ⟨rfl, hb2⟩
      have HB2 := hide (bT (unhide HB) hb2)
      clear hb2
      go_wp2
      go_returns
      refine ⟨?_, unhide HB2⟩
      rw [← unhide HZ0, unhide HZ]
      rfl
set_option maxRecDepth 100000 in
set_option maxHeartbeats 8000000 in
theorem text_6d (ns : List Nd) (g cap i : Nat) (n : Nd) (w : World) (_ : g < w.heap.size) (hn : NodesAt w g 0 ns) (hni : ns[i]? = some n) (hK : n.K = 6) (N : Nat) (hN : n.N = (N : Int)) (hNlo : 1 ≤ N) (hNhi : N ≤ n.Kids.length) (hM : n.M = 1) (hm : n.Kids.length ≤ 10000) (hk : ∀ x ∈ n.Kids, 0 ≤ x ∧ x < (ns.length : Int)) (T : Int → List UInt8) (hsum : (n.Kids.map fun x => (T x).length + 20).sum ≤ 100000000) (HC : ∀ W, Below w.heap.size w W → ∀ x ∈ n.Kids, Calls Tryz.prog 11 #[.slice (some ⟨g, 0, none⟩) ns.length cap, .int .i64 x] W fun e w' => e = .returned (.string (mkS (T x))) ∧ Below W.heap.size W w') (bl : List UInt8) (hbl : bl.length ≤ 150000000) (HBk : ∀ W, Below w.heap.size w W → Calls Tryz.prog 26 #[.slice (some ⟨g, 0, none⟩) ns.length cap, .int .i64 (i : Int)] W fun e w' => e = .returned (.string (mkS bl)) ∧ Below W.heap.size W w') :
    Calls Tryz.prog 11 #[.slice (some ⟨g, 0, none⟩) ns.length cap, .int .i64 (i : Int)] w fun e w' => e = .returned (.string (mkS ([83, 69, 76, 69, 67, 84, 32, 68, 73, 83, 84, 73, 78, 67, 84, 32] ++ Lib.join ((n.Kids.take N).map T) [32, 44, 32] ++ [32] ++ bl))) ∧ Below w.heap.size w w' := by
  obtain ⟨ti, hti, hz⟩ := Option.map_eq_some_iff.1 (show (Tryz.prog.info? 9).map (fun i => (i.zero, i.size, i.bytes)) = some (some (.string ByteArray.empty), 1, 16) by kernel_rfl)
  simp only [Prod.mk.injEq] at hz
  obtain ⟨hz0, hz1, hz2⟩ := hz
  have hi : i < ns.length := (List.getElem?_eq_some_iff.1 hni).1
  obtain ⟨⟨x0, x1, x2, x3, x4⟩, kg, x5, _, hkg, hks⟩ := hn i n hni
  simp only [Nat.zero_add] at x0 x1 x2 x3 x4 x5
  rw [hK] at x0
  rw [hM] at x2
  rw [hN] at x1
  have j0 : (i : Int) < (ns.length : Int) := by omega
  obtain ⟨Z, hZ⟩ : ∃ Z : List UInt8, [83, 69, 76, 69, 67, 84, 32, 68, 73, 83, 84, 73, 78, 67, 84, 32] ++ Lib.join ((n.Kids.take N).map T) [32, 44, 32] ++ [32] ++ bl = Z := ⟨_, rfl⟩
  rw [hZ]
  have HZ0 := hide hZ
  clear hZ
  have Hhk := hide hk
  have Hhsum := hide hsum
  have HHC := hide HC
  have HHBk := hide HBk
  have HN := hide hn
  have HKs := hide hks
  clear hn hks hni hk hsum HC HBk
  go_enter Tryz.func11, Tryz.ntmps11
  go_wp2
  go_loopw [6, 7] (fun v c wr => ∃ (k : Nat) (fs : List (List UInt8)), k ≤ n.Kids.length ∧ c = .int .i64 k ∧ fs = (n.Kids.take (min k N)).map T ∧ wr.ownsRow (w.heap.size + 1) 9 1 v fs.length (strs fs) ∧ w.heap.size + 1 ≤ wr.heap.size ∧ Below (w.heap.size + 1) (w.alloc (.cells #[.int .i64 6, .int .i64 (N : Int), .int .i64 1, .string n.S, .string n.T, .slice (some ⟨kg, 0, none⟩) n.Kids.length n.Kids.length] 54)) wr) (fun _ c _ => n.Kids.length - (intOf c).toNat)
  case atStart => exact ⟨0, [], Nat.zero_le _, rfl, by simp, own_new _ _ (by simp), by simp, (Below.refl _ _).alloc (by simp) _⟩
  case round =>
    obtain ⟨k, fs, hk2, rfl, hfs, hown, hsz, hbx⟩ := hrel
    have HO := hide hown; have HX := hide hbx; have HFs := hide hfs
    have HB : Hid (Below w.heap.size w wr) := (bA (Below.refl _ _) _).trans (hbx.mono (Nat.le_succ _))
    have b0 : wr.cell? ⟨w.heap.size, 0, none⟩ = some (.int .i64 6) := (hbx.cell (p := ⟨w.heap.size, 0, none⟩) (Nat.lt_succ_self _)).trans (by simp [go_sem])
    have b1 : wr.cell? ⟨w.heap.size, 1, none⟩ = some (.int .i64 (N : Int)) := (hbx.cell (p := ⟨w.heap.size, 1, none⟩) (Nat.lt_succ_self _)).trans (by simp [go_sem])
    have b2 : wr.cell? ⟨w.heap.size, 2, none⟩ = some (.int .i64 1) := (hbx.cell (p := ⟨w.heap.size, 2, none⟩) (Nat.lt_succ_self _)).trans (by simp [go_sem])
    have b3 : wr.cell? ⟨w.heap.size, 3, none⟩ = some (.string n.S) := (hbx.cell (p := ⟨w.heap.size, 3, none⟩) (Nat.lt_succ_self _)).trans (by simp [go_sem])
    have b4 : wr.cell? ⟨w.heap.size, 4, none⟩ = some (.string n.T) := (hbx.cell (p := ⟨w.heap.size, 4, none⟩) (Nat.lt_succ_self _)).trans (by simp [go_sem])
    have b5 : wr.cell? ⟨w.heap.size, 5, none⟩ = some (.slice (some ⟨kg, 0, none⟩) n.Kids.length n.Kids.length) := (hbx.cell (p := ⟨w.heap.size, 5, none⟩) (Nat.lt_succ_self _)).trans (by simp [go_sem])
    clear hown hbx hfs
    have s3 : w.heap.size < wr.heap.size := by omega
    by_cases hlt : k < n.Kids.length
    · have j1 : (k : Int) < (n.Kids.length : Int) := by omega
      by_cases hkN : k < N
      · skip
        obtain ⟨x, hx⟩ : ∃ x, n.Kids[k]? = some x := ⟨n.Kids[k], List.getElem?_eq_getElem hlt⟩
        have hxm : x ∈ n.Kids := List.mem_of_getElem? hx
        obtain ⟨p, rfl⟩ : ∃ p : Nat, x = (p : Int) := ⟨x.toNat, by have := (unhide Hhk x hxm).1; omega⟩
        have c1 : wr.cell? ⟨kg, k, none⟩ = some (.int .i64 (p : Int)) := by
          have := unhide HKs k _ hx
          rw [Nat.zero_add] at this
          exact ((bcell (unhide HB)).1 kg k hkg).trans this
        have s1 : kg < wr.heap.size := by omega
        have HCx := hide (unhide HHC wr (unhide HB) _ hxm)
        have HTk : Hid ((n.Kids.take (min (k + 1) N)).map T = (n.Kids.take (min k N)).map T ++ [T (p : Int)]) := by
          show _ = _
          rw [show min (k + 1) N = k + 1 by omega, show min k N = k by omega, List.take_add_one, hx, List.map_append]
          rfl
        have jN : (k : Int) < (N : Int) := by omega
        have hfl : fs.length ≤ 10000 := by rw [unhide HFs]; simp; omega
        clear hx hxm
        generalize T (p : Int) = t at *
        go_wp2_with fail
        refine (unhide HCx).mono ?_
        rintro e w1 ⟨rfl, hb1⟩
        have HO1 := hide (bA_own t (ownB (unhide HO) hb1))
        have HX1 : Hid (Below (w.heap.size + 1) (w.alloc (.cells #[.int .i64 6, .int .i64 (N : Int), .int .i64 1, .string n.S, .string n.T, .slice (some ⟨kg, 0, none⟩) n.Kids.length n.Kids.length] 54)) w1) := (unhide HX).trans (hb1.mono hsz)
        have s31 : w.heap.size < w1.heap.size := Nat.lt_of_lt_of_le s3 hb1.size
        clear hb1 HCx
        go_wp2_with (at_builtin; refine wpList_append_lies _ rfl (.tmp 68) (.tmp 76) 37 rfl (w.heap.size + 1) 9 ti _ 1 16 Tryz.underlying37 hti hz0 hz1 hz2 rfl (by decide) _ fs.length (strs fs) rfl (unhide HO1).1 ⟨w1.heap.size, 0, none⟩ 1 1 (strs [t]) rfl rfl (unhide HO1).2 (strs_one [t]) (by decide) (by unfold maxLen; omega) (by omega) (by simp; omega) _ rfl ?_; intro g2 c2 w2 hown2 hgrow hat hlt2; have HBg := hide (own_grown (unhide HO1).1 hgrow (by simp; omega)))
        go_roundw
        case rel =>
          refine ⟨k + 1, fs ++ [t], by omega, by go_num, by rw [unhide HTk, unhide HFs], by rw [List.length_append, strs_app]; exact hown2, ?_, (((unhide HX1).alloc (by omega) _).trans (unhide HBg))⟩
          have := (unhide HBg).size
          simp at this
          omega
        case measure => simp [intOf]; omega
      · have jN : ¬ (k : Int) < (N : Int) := by omega
        go_wp2
        go_roundw
        case rel => exact ⟨k + 1, fs, by omega, by go_num, by rw [unhide HFs, show min (k + 1) N = min k N by omega], unhide HO, hsz, unhide HX⟩
        case measure => simp [intOf]; omega
    · obtain rfl : k = n.Kids.length := by omega
      have hfs : fs = (n.Kids.take N).map T := by rw [unhide HFs, show min n.Kids.length N = N by omega]
      have hpos : 0 < fs.length := by rw [hfs]; simp; omega
      have hsm : (fs.map fun t => t.length + 20).sum ≤ 100000000 := by
        have := unhide Hhsum
        have h2 := sum_take_leI (fun x => (T x).length + 20) n.Kids N
        rw [hfs, List.map_map]
        exact Nat.le_trans h2 this
      have hfl : fs.length ≤ 10000 := by rw [hfs]; simp; omega
      have hjl : (Lib.join fs [32, 44, 32]).length ≤ 100000000 := by
        refine Nat.le_trans (join_len _ _) (Nat.le_trans (sum_mono20 fs (s := 3) (by decide)) hsm)
      obtain ⟨g3, cap3, rfl, hg3, _, hc3⟩ := own_cells (unhide HO) hpos
      have HJ := hide (l2Join_calls fs [32, 44, 32] g3 cap3 wr hg3 hc3 (by omega) (by refine Nat.le_trans (sum_mono20 fs (s := 3) (by decide)) ?_; omega) (by simp))
      have HJe : Hid (Lib.join ((n.Kids.take N).map T) [32, 44, 32] = Lib.join fs [32, 44, 32]) := by rw [hfs]; exact rfl
      clear hfs hc3 hsm
      generalize Lib.join fs [32, 44, 32] = J at *
      obtain ⟨r1, h1⟩ : ∃ r, ([83, 69, 76, 69, 67, 84, 32, 68, 73, 83, 84, 73, 78, 67, 84, 32] : List UInt8) ++ J = r := ⟨_, rfl⟩
      have l1 : r1.length ≤ 200000000 := by rw [← h1]; first | (simp; done) | (simp; omega)
      have A1 : ∀ w, (Op.stringOp .add ⟨#[83, 69, 76, 69, 67, 84, 32, 68, 73, 83, 84, 73, 78, 67, 84, 32]⟩ (mkS J)).run Tryz.prog w = .ok (.string (mkS r1)) w := fun w => by rw [← h1]; exact cat_is Tryz.prog w ([83, 69, 76, 69, 67, 84, 32, 68, 73, 83, 84, 73, 78, 67, 84, 32] : List UInt8) J (by first | omega | (simp; done) | (simp; omega))
      obtain ⟨r2, h2⟩ : ∃ r, r1 ++ ([32] : List UInt8) = r := ⟨_, rfl⟩
      have l2 : r2.length ≤ 400000000 := by rw [← h2]; first | (simp; done) | (simp; omega)
      have A2 : ∀ w, (Op.stringOp .add (mkS r1) ⟨#[32]⟩).run Tryz.prog w = .ok (.string (mkS r2)) w := fun w => by rw [← h2]; exact cat_is Tryz.prog w r1 ([32] : List UInt8) (by first | omega | (simp; done) | (simp; omega))
      obtain ⟨r3, h3⟩ : ∃ r, r2 ++ bl = r := ⟨_, rfl⟩
      have l3 : r3.length ≤ 600000000 := by rw [← h3]; first | (simp; done) | (simp; omega)
      have A3 : ∀ w, (Op.stringOp .add (mkS r2) (mkS bl)).run Tryz.prog w = .ok (.string (mkS r3)) w := fun w => by rw [← h3]; exact cat_is Tryz.prog w r2 bl (by first | omega | (simp; done) | (simp; omega))
      have HZ : Hid ([83, 69, 76, 69, 67, 84, 32, 68, 73, 83, 84, 73, 78, 67, 84, 32] ++ Lib.join ((n.Kids.take N).map T) [32, 44, 32] ++ [32] ++ bl = r3) := by
        show _ = _
        rw [← h3, ← h2, ← h1, unhide HJe]
      clear h1 l1 h2 l2 h3 l3
      go_wp2_with fail
      refine (unhide HJ).mono ?_
      rintro e w1 ⟨rfl, rfl⟩
      go_wp2_with fail
      refine (unhide HHBk _ (unhide HB)).mono ?_
      rintro e w2 ⟨rfl, hb2⟩
      have HB2 := hide (bT (unhide HB) hb2)
      clear hb2
      go_wp2
      go_returns
      refine ⟨?_, unhide HB2⟩
      rw [← unhide HZ0, unhide HZ]
      rfl
end Go.Proofs.YtmcbmmpjhijagaaGreatDoor
