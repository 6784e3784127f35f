import Derived.Test.YtmcbmmpjhijagaaGreatDoorPrSpBlk
namespace Go.Proofs.YtmcbmmpjhijagaaGreatDoor
open Go Go.RowKit
theorem sum_take_leI (f : Int → Nat) : ∀ (r : List Int) (k : Nat), ((r.take k).map f).sum ≤ (r.map f).sum
  | [], k => by simp
  | x :: r, 0 => by simp
  | x :: r, k + 1 => by
    have := sum_take_leI f r k
    simp only [List.take_succ_cons, List.map_cons, List.sum_cons]
    omega
theorem sum_mono20 {s : Nat} : ∀ (fs : List (List UInt8)), s ≤ 20 → (fs.map fun t => t.length + s).sum ≤ (fs.map fun t => t.length + 20).sum
  | [], _ => by simp
  | x :: r, h => by
    have := sum_mono20 r h
    simp only [List.map_cons, List.sum_cons]
    omega
set_option maxRecDepth 100000 in
set_option maxHeartbeats 8000000 in
theorem text_7 (ns : List Nd) (g cap i : Nat) (n : Nd) (w : World) (_ : g < w.heap.size) (hn : NodesAt w g 0 ns) (hni : ns[i]? = some n) (hK : n.K = 7) (hlo : 1 ≤ n.Kids.length) (hm : n.Kids.length ≤ 10000) (hk : ∀ x ∈ n.Kids, 0 ≤ x ∧ x < (ns.length : Int)) (T : Int → List UInt8) (hsum : (n.Kids.map fun x => (T x).length + 20).sum ≤ 100000000) (HC : ∀ W, Below w.heap.size w W → ∀ x ∈ n.Kids, Calls Tryz.prog 11 #[.slice (some ⟨g, 0, none⟩) ns.length cap, .int .i64 x] W fun e w' => e = .returned (.string (mkS (T x))) ∧ Below W.heap.size W w') :
    Calls Tryz.prog 11 #[.slice (some ⟨g, 0, none⟩) ns.length cap, .int .i64 (i : Int)] w fun e w' => e = .returned (.string (mkS (Lib.join (n.Kids.map T) ([32, 85, 78, 73, 79, 78, 32, 65, 76, 76, 32])))) ∧ Below w.heap.size w w' := by
  obtain ⟨ti, hti, hz⟩ := Option.map_eq_some_iff.1 (show (Tryz.prog.info? 9).map (fun i => (i.zero, i.size, i.bytes)) = some (some (.string ByteArray.empty), 1, 16) by kernel_rfl)
  simp only [Prod.mk.injEq] at hz
  obtain ⟨hz0, hz1, hz2⟩ := hz
  have hi : i < ns.length := (List.getElem?_eq_some_iff.1 hni).1
  obtain ⟨⟨x0, x1, x2, x3, x4⟩, kg, x5, _, hkg, hks⟩ := hn i n hni
  simp only [Nat.zero_add] at x0 x1 x2 x3 x4 x5
  rw [hK] at x0
  have j0 : (i : Int) < (ns.length : Int) := by omega
  obtain ⟨Z, hZ⟩ : ∃ Z : List UInt8, Lib.join (n.Kids.map T) ([32, 85, 78, 73, 79, 78, 32, 65, 76, 76, 32]) = Z := ⟨_, rfl⟩
  rw [hZ]
  have HZ0 := hide hZ
  clear hZ
  have Hhk := hide hk
  have Hhsum := hide hsum
  have HHC := hide HC
  have HN := hide hn
  have HKs := hide hks
  clear hn hks hni hk hsum HC
  go_enter Tryz.func11, Tryz.ntmps11
  go_wp2
  go_loopw [6, 7] (fun v c wr => ∃ (k : Nat) (fs : List (List UInt8)), k ≤ n.Kids.length ∧ c = .int .i64 k ∧ fs = (n.Kids.take k).map T ∧ wr.ownsRow (w.heap.size + 1) 9 1 v fs.length (strs fs) ∧ w.heap.size + 1 ≤ wr.heap.size ∧ Below (w.heap.size + 1) (w.alloc (.cells #[.int .i64 7, .int .i64 n.N, .int .i64 n.M, .string n.S, .string n.T, .slice (some ⟨kg, 0, none⟩) n.Kids.length n.Kids.length] 54)) wr) (fun _ c _ => n.Kids.length - (intOf c).toNat)
  case atStart => exact ⟨0, [], Nat.zero_le _, rfl, by simp, own_new _ _ (by simp), by simp, (Below.refl _ _).alloc (by simp) _⟩
  case round =>
    obtain ⟨k, fs, hk2, rfl, hfs, hown, hsz, hbx⟩ := hrel
    have HO := hide hown; have HX := hide hbx; have HFs := hide hfs
    have HB : Hid (Below w.heap.size w wr) := (bA (Below.refl _ _) _).trans (hbx.mono (Nat.le_succ _))
    have b0 : wr.cell? ⟨w.heap.size, 0, none⟩ = some (.int .i64 7) := (hbx.cell (p := ⟨w.heap.size, 0, none⟩) (Nat.lt_succ_self _)).trans (by simp [go_sem])
    have b1 : wr.cell? ⟨w.heap.size, 1, none⟩ = some (.int .i64 n.N) := (hbx.cell (p := ⟨w.heap.size, 1, none⟩) (Nat.lt_succ_self _)).trans (by simp [go_sem])
    have b2 : wr.cell? ⟨w.heap.size, 2, none⟩ = some (.int .i64 n.M) := (hbx.cell (p := ⟨w.heap.size, 2, none⟩) (Nat.lt_succ_self _)).trans (by simp [go_sem])
    have b3 : wr.cell? ⟨w.heap.size, 3, none⟩ = some (.string n.S) := (hbx.cell (p := ⟨w.heap.size, 3, none⟩) (Nat.lt_succ_self _)).trans (by simp [go_sem])
    have b4 : wr.cell? ⟨w.heap.size, 4, none⟩ = some (.string n.T) := (hbx.cell (p := ⟨w.heap.size, 4, none⟩) (Nat.lt_succ_self _)).trans (by simp [go_sem])
    have b5 : wr.cell? ⟨w.heap.size, 5, none⟩ = some (.slice (some ⟨kg, 0, none⟩) n.Kids.length n.Kids.length) := (hbx.cell (p := ⟨w.heap.size, 5, none⟩) (Nat.lt_succ_self _)).trans (by simp [go_sem])
    clear hown hbx hfs
    have s3 : w.heap.size < wr.heap.size := by omega
    by_cases hlt : k < n.Kids.length
    · have j1 : (k : Int) < (n.Kids.length : Int) := by omega
      obtain ⟨x, hx⟩ : ∃ x, n.Kids[k]? = some x := ⟨n.Kids[k], List.getElem?_eq_getElem hlt⟩
      have hxm : x ∈ n.Kids := List.mem_of_getElem? hx
      obtain ⟨p, rfl⟩ : ∃ p : Nat, x = (p : Int) := ⟨x.toNat, by have := (unhide Hhk x hxm).1; omega⟩
      have c1 : wr.cell? ⟨kg, k, none⟩ = some (.int .i64 (p : Int)) := by
        have := unhide HKs k _ hx
        rw [Nat.zero_add] at this
        exact ((bcell (unhide HB)).1 kg k hkg).trans this
      have s1 : kg < wr.heap.size := by omega
      have HCx := hide (unhide HHC wr (unhide HB) _ hxm)
      have HTk : Hid ((n.Kids.take (k + 1)).map T = (n.Kids.take k).map T ++ [T (p : Int)]) := by
        show _ = _
        rw [List.take_add_one, hx, List.map_append]
        rfl
      have hfl : fs.length ≤ 10000 := by rw [unhide HFs]; simp; omega
      clear hx hxm
      generalize T (p : Int) = t at *
      go_wp2_with fail
      refine (unhide HCx).mono ?_
      rintro e w1 ⟨rfl, hb1⟩
      have HO1 := hide (bA_own t (ownB (unhide HO) hb1))
      have HX1 : Hid (Below (w.heap.size + 1) (w.alloc (.cells #[.int .i64 7, .int .i64 n.N, .int .i64 n.M, .string n.S, .string n.T, .slice (some ⟨kg, 0, none⟩) n.Kids.length n.Kids.length] 54)) w1) := (unhide HX).trans (hb1.mono hsz)
      have s31 : w.heap.size < w1.heap.size := Nat.lt_of_lt_of_le s3 hb1.size
      clear hb1 HCx
      go_wp2_with (at_builtin; refine wpList_append_lies _ rfl (.tmp 68) (.tmp 76) 37 rfl (w.heap.size + 1) 9 ti _ 1 16 Tryz.underlying37 hti hz0 hz1 hz2 rfl (by decide) _ fs.length (strs fs) rfl (unhide HO1).1 ⟨w1.heap.size, 0, none⟩ 1 1 (strs [t]) rfl rfl (unhide HO1).2 (strs_one [t]) (by decide) (by unfold maxLen; omega) (by omega) (by simp; omega) _ rfl ?_; intro g2 c2 w2 hown2 hgrow hat hlt2; have HBg := hide (own_grown (unhide HO1).1 hgrow (by simp; omega)))
      go_roundw
      case rel =>
        refine ⟨k + 1, fs ++ [t], by omega, by go_num, by rw [unhide HTk, unhide HFs], by rw [List.length_append, strs_app]; exact hown2, ?_, (((unhide HX1).alloc (by omega) _).trans (unhide HBg))⟩
        have := (unhide HBg).size
        simp at this
        omega
      case measure => simp [intOf]; omega
    · obtain rfl : k = n.Kids.length := by omega
      have hfs : fs = n.Kids.map T := by rw [unhide HFs, List.take_length]
      have hpos : 0 < fs.length := by rw [hfs]; simp; omega
      have hsm : (fs.map fun t => t.length + 20).sum ≤ 100000000 := by
        have := unhide Hhsum
        rw [hfs, List.map_map]
        exact this
      have hfl : fs.length ≤ 10000 := by rw [hfs]; simp; omega
      have HZ : Hid (Lib.join (n.Kids.map T) ([32, 85, 78, 73, 79, 78, 32, 65, 76, 76, 32]) = Lib.join fs ([32, 85, 78, 73, 79, 78, 32, 65, 76, 76, 32])) := by rw [hfs]; exact rfl
      clear hfs
      obtain ⟨g3, cap3, rfl, hg3, _, hc3⟩ := own_cells (unhide HO) hpos
      have HJ := hide (l2Join_calls fs [32, 85, 78, 73, 79, 78, 32, 65, 76, 76, 32] g3 cap3 wr hg3 hc3 (by omega) (by refine Nat.le_trans (sum_mono20 fs (s := 11) (by decide)) ?_; omega) (by simp))
      clear hc3 hsm
      go_wp2_with fail
      refine (unhide HJ).mono ?_
      rintro e w1 ⟨rfl, rfl⟩
      go_wp2
      go_returns
      refine ⟨?_, unhide HB⟩
      rw [← unhide HZ0, unhide HZ]
      rfl
set_option maxRecDepth 100000 in
set_option maxHeartbeats 8000000 in
theorem text_14 (ns : List Nd) (g cap i : Nat) (n : Nd) (w : World) (_ : g < w.heap.size) (hn : NodesAt w g 0 ns) (hni : ns[i]? = some n) (hK : n.K = 14) (hlo : 1 ≤ n.Kids.length) (hm : n.Kids.length ≤ 10000) (hk : ∀ x ∈ n.Kids, 0 ≤ x ∧ x < (ns.length : Int)) (T : Int → List UInt8) (hsum : (n.Kids.map fun x => (T x).length + 20).sum ≤ 100000000) (HC : ∀ W, Below w.heap.size w W → ∀ x ∈ n.Kids, Calls Tryz.prog 23 #[.slice (some ⟨g, 0, none⟩) ns.length cap, .int .i64 x, .int .i64 14, .int .i64 15] W fun e w' => e = .returned (.string (mkS (T x))) ∧ Below W.heap.size W w') :
    Calls Tryz.prog 11 #[.slice (some ⟨g, 0, none⟩) ns.length cap, .int .i64 (i : Int)] w fun e w' => e = .returned (.string (mkS (Lib.join (n.Kids.map T) ([32, 65, 78, 68, 32])))) ∧ Below w.heap.size w w' := by
  obtain ⟨ti, hti, hz⟩ := Option.map_eq_some_iff.1 (show (Tryz.prog.info? 9).map (fun i => (i.zero, i.size, i.bytes)) = some (some (.string ByteArray.empty), 1, 16) by kernel_rfl)
  simp only [Prod.mk.injEq] at hz
  obtain ⟨hz0, hz1, hz2⟩ := hz
  have hi : i < ns.length := (List.getElem?_eq_some_iff.1 hni).1
  obtain ⟨⟨x0, x1, x2, x3, x4⟩, kg, x5, _, hkg, hks⟩ := hn i n hni
  simp only [Nat.zero_add] at x0 x1 x2 x3 x4 x5
  rw [hK] at x0
  have j0 : (i : Int) < (ns.length : Int) := by omega
  obtain ⟨Z, hZ⟩ : ∃ Z : List UInt8, Lib.join (n.Kids.map T) ([32, 65, 78, 68, 32]) = Z := ⟨_, rfl⟩
  rw [hZ]
  have HZ0 := hide hZ
  clear hZ
  have Hhk := hide hk
  have Hhsum := hide hsum
  have HHC := hide HC
  have HN := hide hn
  have HKs := hide hks
  clear hn hks hni hk hsum HC
  go_enter Tryz.func11, Tryz.ntmps11
  go_wp2
  go_loopw [6, 7] (fun v c wr => ∃ (k : Nat) (fs : List (List UInt8)), k ≤ n.Kids.length ∧ c = .int .i64 k ∧ fs = (n.Kids.take k).map T ∧ wr.ownsRow (w.heap.size + 1) 9 1 v fs.length (strs fs) ∧ w.heap.size + 1 ≤ wr.heap.size ∧ Below (w.heap.size + 1) (w.alloc (.cells #[.int .i64 14, .int .i64 n.N, .int .i64 n.M, .string n.S, .string n.T, .slice (some ⟨kg, 0, none⟩) n.Kids.length n.Kids.length] 54)) wr) (fun _ c _ => n.Kids.length - (intOf c).toNat)
  case atStart => exact ⟨0, [], Nat.zero_le _, rfl, by simp, own_new _ _ (by simp), by simp, (Below.refl _ _).alloc (by simp) _⟩
  case round =>
    obtain ⟨k, fs, hk2, rfl, hfs, hown, hsz, hbx⟩ := hrel
    have HO := hide hown; have HX := hide hbx; have HFs := hide hfs
    have HB : Hid (Below w.heap.size w wr) := (bA (Below.refl _ _) _).trans (hbx.mono (Nat.le_succ _))
    have b0 : wr.cell? ⟨w.heap.size, 0, none⟩ = some (.int .i64 14) := (hbx.cell (p := ⟨w.heap.size, 0, none⟩) (Nat.lt_succ_self _)).trans (by simp [go_sem])
    have b1 : wr.cell? ⟨w.heap.size, 1, none⟩ = some (.int .i64 n.N) := (hbx.cell (p := ⟨w.heap.size, 1, none⟩) (Nat.lt_succ_self _)).trans (by simp [go_sem])
    have b2 : wr.cell? ⟨w.heap.size, 2, none⟩ = some (.int .i64 n.M) := (hbx.cell (p := ⟨w.heap.size, 2, none⟩) (Nat.lt_succ_self _)).trans (by simp [go_sem])
    have b3 : wr.cell? ⟨w.heap.size, 3, none⟩ = some (.string n.S) := (hbx.cell (p := ⟨w.heap.size, 3, none⟩) (Nat.lt_succ_self _)).trans (by simp [go_sem])
    have b4 : wr.cell? ⟨w.heap.size, 4, none⟩ = some (.string n.T) := (hbx.cell (p := ⟨w.heap.size, 4, none⟩) (Nat.lt_succ_self _)).trans (by simp [go_sem])
    have b5 : wr.cell? ⟨w.heap.size, 5, none⟩ = some (.slice (some ⟨kg, 0, none⟩) n.Kids.length n.Kids.length) := (hbx.cell (p := ⟨w.heap.size, 5, none⟩) (Nat.lt_succ_self _)).trans (by simp [go_sem])
    clear hown hbx hfs
    have s3 : w.heap.size < wr.heap.size := by omega
    by_cases hlt : k < n.Kids.length
    · have j1 : (k : Int) < (n.Kids.length : Int) := by omega
      obtain ⟨x, hx⟩ : ∃ x, n.Kids[k]? = some x := ⟨n.Kids[k], List.getElem?_eq_getElem hlt⟩
      have hxm : x ∈ n.Kids := List.mem_of_getElem? hx
      obtain ⟨p, rfl⟩ : ∃ p : Nat, x = (p : Int) := ⟨x.toNat, by have := (unhide Hhk x hxm).1; omega⟩
      have c1 : wr.cell? ⟨kg, k, none⟩ = some (.int .i64 (p : Int)) := by
        have := unhide HKs k _ hx
        rw [Nat.zero_add] at this
        exact ((bcell (unhide HB)).1 kg k hkg).trans this
      have s1 : kg < wr.heap.size := by omega
      have HCx := hide (unhide HHC wr (unhide HB) _ hxm)
      have HTk : Hid ((n.Kids.take (k + 1)).map T = (n.Kids.take k).map T ++ [T (p : Int)]) := by
        show _ = _
        rw [List.take_add_one, hx, List.map_append]
        rfl
      have hfl : fs.length ≤ 10000 := by rw [unhide HFs]; simp; omega
      clear hx hxm
      generalize T (p : Int) = t at *
      go_wp2_with fail
      refine (unhide HCx).mono ?_
      rintro e w1 ⟨rfl, hb1⟩
      have HO1 := hide (bA_own t (ownB (unhide HO) hb1))
      have HX1 : Hid (Below (w.heap.size + 1) (w.alloc (.cells #[.int .i64 14, .int .i64 n.N, .int .i64 n.M, .string n.S, .string n.T, .slice (some ⟨kg, 0, none⟩) n.Kids.length n.Kids.length] 54)) w1) := (unhide HX).trans (hb1.mono hsz)
      have s31 : w.heap.size < w1.heap.size := Nat.lt_of_lt_of_le s3 hb1.size
      clear hb1 HCx
      go_wp2_with (at_builtin; refine wpList_append_lies _ rfl (.tmp 31) (.tmp 39) 37 rfl (w.heap.size + 1) 9 ti _ 1 16 Tryz.underlying37 hti hz0 hz1 hz2 rfl (by decide) _ fs.length (strs fs) rfl (unhide HO1).1 ⟨w1.heap.size, 0, none⟩ 1 1 (strs [t]) rfl rfl (unhide HO1).2 (strs_one [t]) (by decide) (by unfold maxLen; omega) (by omega) (by simp; omega) _ rfl ?_; intro g2 c2 w2 hown2 hgrow hat hlt2; have HBg := hide (own_grown (unhide HO1).1 hgrow (by simp; omega)))
      go_roundw
      case rel =>
        refine ⟨k + 1, fs ++ [t], by omega, by go_num, by rw [unhide HTk, unhide HFs], by rw [List.length_append, strs_app]; exact hown2, ?_, (((unhide HX1).alloc (by omega) _).trans (unhide HBg))⟩
        have := (unhide HBg).size
        simp at this
        omega
      case measure => simp [intOf]; omega
    · obtain rfl : k = n.Kids.length := by omega
      have hfs : fs = n.Kids.map T := by rw [unhide HFs, List.take_length]
      have hpos : 0 < fs.length := by rw [hfs]; simp; omega
      have hsm : (fs.map fun t => t.length + 20).sum ≤ 100000000 := by
        have := unhide Hhsum
        rw [hfs, List.map_map]
        exact this
      have hfl : fs.length ≤ 10000 := by rw [hfs]; simp; omega
      have HZ : Hid (Lib.join (n.Kids.map T) ([32, 65, 78, 68, 32]) = Lib.join fs ([32, 65, 78, 68, 32])) := by rw [hfs]; exact rfl
      clear hfs
      obtain ⟨g3, cap3, rfl, hg3, _, hc3⟩ := own_cells (unhide HO) hpos
      have HJ := hide (l2Join_calls fs [32, 65, 78, 68, 32] g3 cap3 wr hg3 hc3 (by omega) (by refine Nat.le_trans (sum_mono20 fs (s := 5) (by decide)) ?_; omega) (by simp))
      clear hc3 hsm
      go_wp2_with fail
      refine (unhide HJ).mono ?_
      rintro e w1 ⟨rfl, rfl⟩
      go_wp2
      go_returns
      refine ⟨?_, unhide HB⟩
      rw [← unhide HZ0, unhide HZ]
      rfl
set_option maxRecDepth 100000 in
set_option maxHeartbeats 8000000 in
theorem text_15 (ns : List Nd) (g cap i : Nat) (n : Nd) (w : World) (_ : g < w.heap.size) (hn : NodesAt w g 0 ns) (hni : ns[i]? = some n) (hK : n.K = 15) (hlo : 1 ≤ n.Kids.length) (hm : n.Kids.length ≤ 10000) (hk : ∀ x ∈ n.Kids, 0 ≤ x ∧ x < (ns.length : Int)) (T : Int → List UInt8) (hsum : (n.Kids.map fun x => (T x).length + 20).sum ≤ 100000000) (HC : ∀ W, Below w.heap.size w W → ∀ x ∈ n.Kids, Calls Tryz.prog 23 #[.slice (some ⟨g, 0, none⟩) ns.length cap, .int .i64 x, .int .i64 15, .int .i64 15] W fun e w' => e = .returned (.string (mkS (T x))) ∧ Below W.heap.size W w') :
    Calls Tryz.prog 11 #[.slice (some ⟨g, 0, none⟩) ns.length cap, .int .i64 (i : Int)] w fun e w' => e = .returned (.string (mkS (Lib.join (n.Kids.map T) ([32, 79, 82, 32])))) ∧ Below w.heap.size w w' := by
  obtain ⟨ti, hti, hz⟩ := Option.map_eq_some_iff.1 (show (Tryz.prog.info? 9).map (fun i => (i.zero, i.size, i.bytes)) = some (some (.string ByteArray.empty), 1, 16) by kernel_rfl)
  simp only [Prod.mk.injEq] at hz
  obtain ⟨hz0, hz1, hz2⟩ := hz
  have hi : i < ns.length := (List.getElem?_eq_some_iff.1 hni).1
  obtain ⟨⟨x0, x1, x2, x3, x4⟩, kg, x5, _, hkg, hks⟩ := hn i n hni
  simp only [Nat.zero_add] at x0 x1 x2 x3 x4 x5
  rw [hK] at x0
  have j0 : (i : Int) < (ns.length : Int) := by omega
  obtain ⟨Z, hZ⟩ : ∃ Z : List UInt8, Lib.join (n.Kids.map T) ([32, 79, 82, 32]) = Z := ⟨_, rfl⟩
  rw [hZ]
  have HZ0 := hide hZ
  clear hZ
  have Hhk := hide hk
  have Hhsum := hide hsum
  have HHC := hide HC
  have HN := hide hn
  have HKs := hide hks
  clear hn hks hni hk hsum HC
  go_enter Tryz.func11, Tryz.ntmps11
  go_wp2
  go_loopw [6, 7] (fun v c wr => ∃ (k : Nat) (fs : List (List UInt8)), k ≤ n.Kids.length ∧ c = .int .i64 k ∧ fs = (n.Kids.take k).map T ∧ wr.ownsRow (w.heap.size + 1) 9 1 v fs.length (strs fs) ∧ w.heap.size + 1 ≤ wr.heap.size ∧ Below (w.heap.size + 1) (w.alloc (.cells #[.int .i64 15, .int .i64 n.N, .int .i64 n.M, .string n.S, .string n.T, .slice (some ⟨kg, 0, none⟩) n.Kids.length n.Kids.length] 54)) wr) (fun _ c _ => n.Kids.length - (intOf c).toNat)
  case atStart => exact ⟨0, [], Nat.zero_le _, rfl, by simp, own_new _ _ (by simp), by simp, (Below.refl _ _).alloc (by simp) _⟩
  case round =>
    obtain ⟨k, fs, hk2, rfl, hfs, hown, hsz, hbx⟩ := hrel
    have HO := hide hown; have HX := hide hbx; have HFs := hide hfs
    have HB : Hid (Below w.heap.size w wr) := (bA (Below.refl _ _) _).trans (hbx.mono (Nat.le_succ _))
    have b0 : wr.cell? ⟨w.heap.size, 0, none⟩ = some (.int .i64 15) := (hbx.cell (p := ⟨w.heap.size, 0, none⟩) (Nat.lt_succ_self _)).trans (by simp [go_sem])
    have b1 : wr.cell? ⟨w.heap.size, 1, none⟩ = some (.int .i64 n.N) := (hbx.cell (p := ⟨w.heap.size, 1, none⟩) (Nat.lt_succ_self _)).trans (by simp [go_sem])
    have b2 : wr.cell? ⟨w.heap.size, 2, none⟩ = some (.int .i64 n.M) := (hbx.cell (p := ⟨w.heap.size, 2, none⟩) (Nat.lt_succ_self _)).trans (by simp [go_sem])
    have b3 : wr.cell? ⟨w.heap.size, 3, none⟩ = some (.string n.S) := (hbx.cell (p := ⟨w.heap.size, 3, none⟩) (Nat.lt_succ_self _)).trans (by simp [go_sem])
    have b4 : wr.cell? ⟨w.heap.size, 4, none⟩ = some (.string n.T) := (hbx.cell (p := ⟨w.heap.size, 4, none⟩) (Nat.lt_succ_self _)).trans (by simp [go_sem])
    have b5 : wr.cell? ⟨w.heap.size, 5, none⟩ = some (.slice (some ⟨kg, 0, none⟩) n.Kids.length n.Kids.length) := (hbx.cell (p := ⟨w.heap.size, 5, none⟩) (Nat.lt_succ_self _)).trans (by simp [go_sem])
    clear hown hbx hfs
    have s3 : w.heap.size < wr.heap.size := by omega
    by_cases hlt : k < n.Kids.length
    · have j1 : (k : Int) < (n.Kids.length : Int) := by omega
      obtain ⟨x, hx⟩ : ∃ x, n.Kids[k]? = some x := ⟨n.Kids[k], List.getElem?_eq_getElem hlt⟩
      have hxm : x ∈ n.Kids := List.mem_of_getElem? hx
      obtain ⟨p, rfl⟩ : ∃ p : Nat, x = (p : Int) := ⟨x.toNat, by have := (unhide Hhk x hxm).1; omega⟩
      have c1 : wr.cell? ⟨kg, k, none⟩ = some (.int .i64 (p : Int)) := by
        have := unhide HKs k _ hx
        rw [Nat.zero_add] at this
        exact ((bcell (unhide HB)).1 kg k hkg).trans this
      have s1 : kg < wr.heap.size := by omega
      have HCx := hide (unhide HHC wr (unhide HB) _ hxm)
      have HTk : Hid ((n.Kids.take (k + 1)).map T = (n.Kids.take k).map T ++ [T (p : Int)]) := by
        show _ = _
        rw [List.take_add_one, hx, List.map_append]
        rfl
      have hfl : fs.length ≤ 10000 := by rw [unhide HFs]; simp; omega
      clear hx hxm
      generalize T (p : Int) = t at *
      go_wp2_with fail
      refine (unhide HCx).mono ?_
      rintro e w1 ⟨rfl, hb1⟩
      have HO1 := hide (bA_own t (ownB (unhide HO) hb1))
      have HX1 : Hid (Below (w.heap.size + 1) (w.alloc (.cells #[.int .i64 15, .int .i64 n.N, .int .i64 n.M, .string n.S, .string n.T, .slice (some ⟨kg, 0, none⟩) n.Kids.length n.Kids.length] 54)) w1) := (unhide HX).trans (hb1.mono hsz)
      have s31 : w.heap.size < w1.heap.size := Nat.lt_of_lt_of_le s3 hb1.size
      clear hb1 HCx
      go_wp2_with (at_builtin; refine wpList_append_lies _ rfl (.tmp 44) (.tmp 52) 37 rfl (w.heap.size + 1) 9 ti _ 1 16 Tryz.underlying37 hti hz0 hz1 hz2 rfl (by decide) _ fs.length (strs fs) rfl (unhide HO1).1 ⟨w1.heap.size, 0, none⟩ 1 1 (strs [t]) rfl rfl (unhide HO1).2 (strs_one [t]) (by decide) (by unfold maxLen; omega) (by omega) (by simp; omega) _ rfl ?_; intro g2 c2 w2 hown2 hgrow hat hlt2; have HBg := hide (own_grown (unhide HO1).1 hgrow (by simp; omega)))
      go_roundw
      case rel =>
        refine ⟨k + 1, fs ++ [t], by omega, by go_num, by rw [unhide HTk, unhide HFs], by rw [List.length_append, strs_app]; exact hown2, ?_, (((unhide HX1).alloc (by omega) _).trans (unhide HBg))⟩
        have := (unhide HBg).size
        simp at this
        omega
      case measure => simp [intOf]; omega
    · obtain rfl : k = n.Kids.length := by omega
      have hfs : fs = n.Kids.map T := by rw [unhide HFs, List.take_length]
      have hpos : 0 < fs.length := by rw [hfs]; simp; omega
      have hsm : (fs.map fun t => t.length + 20).sum ≤ 100000000 := by
        have := unhide Hhsum
        rw [hfs, List.map_map]
        exact this
      have hfl : fs.length ≤ 10000 := by rw [hfs]; simp; omega
      have HZ : Hid (Lib.join (n.Kids.map T) ([32, 79, 82, 32]) = Lib.join fs ([32, 79, 82, 32])) := by rw [hfs]; exact rfl
      clear hfs
      obtain ⟨g3, cap3, rfl, hg3, _, hc3⟩ := own_cells (unhide HO) hpos
      have HJ := hide (l2Join_calls fs [32, 79, 82, 32] g3 cap3 wr hg3 hc3 (by omega) (by refine Nat.le_trans (sum_mono20 fs (s := 4) (by decide)) ?_; omega) (by simp))
      clear hc3 hsm
      go_wp2_with fail
      refine (unhide HJ).mono ?_
      rintro e w1 ⟨rfl, rfl⟩
      go_wp2
      go_returns
      refine ⟨?_, unhide HB⟩
      rw [← unhide HZ0, unhide HZ]
      rfl
end Go.Proofs.YtmcbmmpjhijagaaGreatDoor
