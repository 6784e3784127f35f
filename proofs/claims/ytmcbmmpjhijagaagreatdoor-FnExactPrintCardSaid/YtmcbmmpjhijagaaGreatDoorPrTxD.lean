import Derived.Test.YtmcbmmpjhijagaaGreatDoorPrTxB
import Derived.Test.YtmcbmmpjhijagaaGreatDoorQ8
namespace Go.Proofs.YtmcbmmpjhijagaaGreatDoor
open Go Go.RowKit
set_option maxRecDepth 100000 in
set_option maxHeartbeats 8000000 in
theorem text_9 (ns : List Nd) (g cap i : Nat) (n : Nd) (w : World) (_ : g < w.heap.size) (hn : NodesAt w g 0 ns) (hni : ns[i]? = some n) (hK : n.K = 9) (a : Int) (hab : n.Kids = [a]) (hm : n.Kids.length ≤ 10000) (hk : ∀ x ∈ n.Kids, 0 ≤ x ∧ x < (ns.length : Int)) (T : Int → List UInt8) (hT : ∀ x ∈ n.Kids, (T x).length ≤ 5000000) (HC : ∀ W, Below w.heap.size w W → ∀ x ∈ n.Kids, Calls Tryz.prog 11 #[.slice (some ⟨g, 0, none⟩) ns.length cap, .int .i64 x] W fun e w' => e = .returned (.string (mkS (T x))) ∧ Below W.heap.size W w') :
    Calls Tryz.prog 11 #[.slice (some ⟨g, 0, none⟩) ns.length cap, .int .i64 (i : Int)] w fun e w' => e = .returned (.string (mkS (T a ++ [32, 73, 83, 32] ++ (if n.M = 1 then [78, 79, 84, 32] else []) ++ [78, 85, 76, 76]))) ∧ Below w.heap.size w w' := by
  obtain ⟨ti, hti, hz⟩ := Option.map_eq_some_iff.1 (show (Tryz.prog.info? 9).map (fun i => (i.zero, i.size, i.bytes)) = some (some (.string ByteArray.empty), 1, 16) by kernel_rfl)
  simp only [Prod.mk.injEq] at hz
  obtain ⟨hz0, hz1, hz2⟩ := hz
  have hi : i < ns.length := (List.getElem?_eq_some_iff.1 hni).1
  obtain ⟨⟨x0, x1, x2, x3, x4⟩, kg, x5, _, hkg, hks⟩ := hn i n hni
  simp only [Nat.zero_add] at x0 x1 x2 x3 x4 x5
  rw [hK] at x0
  have j0 : (i : Int) < (ns.length : Int) := by omega
  obtain ⟨Z, hZ⟩ : ∃ Z : List UInt8, T a ++ [32, 73, 83, 32] ++ (if n.M = 1 then [78, 79, 84, 32] else []) ++ [78, 85, 76, 76] = Z := ⟨_, rfl⟩
  rw [hZ]
  have HZ0 := hide hZ
  clear hZ
  have Hhk := hide hk
  have HhT := hide hT
  have HHC := hide HC
  have Hhab := hide hab
  have HN := hide hn
  have HKs := hide hks
  clear hn hks hni hk hT HC hab
  go_enter Tryz.func11, Tryz.ntmps11
  go_wp2
  go_loopw [6, 7] (fun v c wr => ∃ (k : Nat) (fs : List (List UInt8)), k ≤ n.Kids.length ∧ c = .int .i64 k ∧ fs = (n.Kids.take k).map T ∧ wr.ownsRow (w.heap.size + 1) 9 1 v fs.length (strs fs) ∧ w.heap.size + 1 ≤ wr.heap.size ∧ Below (w.heap.size + 1) (w.alloc (.cells #[.int .i64 9, .int .i64 n.N, .int .i64 n.M, .string n.S, .string n.T, .slice (some ⟨kg, 0, none⟩) n.Kids.length n.Kids.length] 54)) wr) (fun _ c _ => n.Kids.length - (intOf c).toNat)
  case atStart => exact ⟨0, [], Nat.zero_le _, rfl, by simp, own_new _ _ (by simp), by simp, (Below.refl _ _).alloc (by simp) _⟩
  case round =>
    obtain ⟨k, fs, hk2, rfl, hfs, hown, hsz, hbx⟩ := hrel
    have HO := hide hown; have HX := hide hbx; have HFs := hide hfs
    have HB : Hid (Below w.heap.size w wr) := (bA (Below.refl _ _) _).trans (hbx.mono (Nat.le_succ _))
    have b0 : wr.cell? ⟨w.heap.size, 0, none⟩ = some (.int .i64 9) := (hbx.cell (p := ⟨w.heap.size, 0, none⟩) (Nat.lt_succ_self _)).trans (by simp [go_sem])
    have b1 : wr.cell? ⟨w.heap.size, 1, none⟩ = some (.int .i64 n.N) := (hbx.cell (p := ⟨w.heap.size, 1, none⟩) (Nat.lt_succ_self _)).trans (by simp [go_sem])
    have b2 : wr.cell? ⟨w.heap.size, 2, none⟩ = some (.int .i64 n.M) := (hbx.cell (p := ⟨w.heap.size, 2, none⟩) (Nat.lt_succ_self _)).trans (by simp [go_sem])
    have b3 : wr.cell? ⟨w.heap.size, 3, none⟩ = some (.string n.S) := (hbx.cell (p := ⟨w.heap.size, 3, none⟩) (Nat.lt_succ_self _)).trans (by simp [go_sem])
    have b4 : wr.cell? ⟨w.heap.size, 4, none⟩ = some (.string n.T) := (hbx.cell (p := ⟨w.heap.size, 4, none⟩) (Nat.lt_succ_self _)).trans (by simp [go_sem])
    have b5 : wr.cell? ⟨w.heap.size, 5, none⟩ = some (.slice (some ⟨kg, 0, none⟩) n.Kids.length n.Kids.length) := (hbx.cell (p := ⟨w.heap.size, 5, none⟩) (Nat.lt_succ_self _)).trans (by simp [go_sem])
    clear hown hbx hfs
    have s3 : w.heap.size < wr.heap.size := by omega
    by_cases hlt : k < n.Kids.length
    · have j1 : (k : Int) < (n.Kids.length : Int) := by omega
      obtain ⟨x, hx⟩ : ∃ x, n.Kids[k]? = some x := ⟨n.Kids[k], List.getElem?_eq_getElem hlt⟩
      have hxm : x ∈ n.Kids := List.mem_of_getElem? hx
      obtain ⟨p, rfl⟩ : ∃ p : Nat, x = (p : Int) := ⟨x.toNat, by have := (unhide Hhk x hxm).1; omega⟩
      have c1 : wr.cell? ⟨kg, k, none⟩ = some (.int .i64 (p : Int)) := by
        have := unhide HKs k _ hx
        rw [Nat.zero_add] at this
        exact ((bcell (unhide HB)).1 kg k hkg).trans this
      have s1 : kg < wr.heap.size := by omega
      have HCx := hide (unhide HHC wr (unhide HB) _ hxm)
      have HTk : Hid ((n.Kids.take (k + 1)).map T = (n.Kids.take k).map T ++ [T (p : Int)]) := by
        show _ = _
        rw [List.take_add_one, hx, List.map_append]
        rfl
      have hfl : fs.length ≤ 10000 := by rw [unhide HFs]; simp; omega
      clear hx hxm
      generalize T (p : Int) = t at *
      go_wp2_with fail
      refine (unhide HCx).mono ?_
      rintro e w1 ⟨rfl, hb1⟩
      have HO1 := hide (bA_own t (ownB (unhide HO) hb1))
      have HX1 : Hid (Below (w.heap.size + 1) (w.alloc (.cells #[.int .i64 9, .int .i64 n.N, .int .i64 n.M, .string n.S, .string n.T, .slice (some ⟨kg, 0, none⟩) n.Kids.length n.Kids.length] 54)) w1) := (unhide HX).trans (hb1.mono hsz)
      have s31 : w.heap.size < w1.heap.size := Nat.lt_of_lt_of_le s3 hb1.size
      clear hb1 HCx
      go_wp2_with (at_builtin; refine wpList_append_lies _ rfl (.tmp 68) (.tmp 76) 37 rfl (w.heap.size + 1) 9 ti _ 1 16 Tryz.underlying37 hti hz0 hz1 hz2 rfl (by decide) _ fs.length (strs fs) rfl (unhide HO1).1 ⟨w1.heap.size, 0, none⟩ 1 1 (strs [t]) rfl rfl (unhide HO1).2 (strs_one [t]) (by decide) (by unfold maxLen; omega) (by omega) (by simp; omega) _ rfl ?_; intro g2 c2 w2 hown2 hgrow hat hlt2; have HBg := hide (own_grown (unhide HO1).1 hgrow (by simp; omega)))
      go_roundw
      case rel =>
        refine ⟨k + 1, fs ++ [t], by omega, by go_num, by rw [unhide HTk, unhide HFs], by rw [List.length_append, strs_app]; exact hown2, ?_, (((unhide HX1).alloc (by omega) _).trans (unhide HBg))⟩
        have := (unhide HBg).size
        simp at this
        omega
      case measure => simp [intOf]; omega
    · obtain rfl : k = n.Kids.length := by omega
      have hfs : fs = n.Kids.map T := by rw [unhide HFs, List.take_length]
      have hfa : fs = [T a] := by rw [hfs, unhide Hhab]; rfl
      have hTa := unhide HhT a (by rw [unhide Hhab]; simp)
      clear hfs HFs
      subst hfa
      obtain ⟨g3, cap3, rfl, hg3, _, hc3⟩ := own_cells (unhide HO) (by simp)
      have e0 := hc3 0 (T a) rfl
      clear hc3
      have HNt := hide (fun W => l2Not_calls n.M W)
      obtain ⟨nt, hnt⟩ : ∃ nt : List UInt8, (if n.M = 1 then [78, 79, 84, 32] else []) = nt := ⟨_, rfl⟩
      have hntl : nt.length ≤ 4 := by rw [← hnt]; split <;> simp
      rw [hnt] at HNt
      obtain ⟨r1, h1⟩ : ∃ r, (T a) ++ ([32, 73, 83, 32] : List UInt8) = r := ⟨_, rfl⟩
      have l1 : r1.length ≤ 200000000 := by rw [← h1]; first | (simp; done) | (simp; omega)
      have A1 : ∀ w, (Op.stringOp .add (mkS (T a)) ⟨#[32, 73, 83, 32]⟩).run Tryz.prog w = .ok (.string (mkS r1)) w := fun w => by rw [← h1]; exact cat_is Tryz.prog w (T a) ([32, 73, 83, 32] : List UInt8) (by first | omega | (simp; done) | (simp; omega))
      obtain ⟨r2, h2⟩ : ∃ r, r1 ++ nt = r := ⟨_, rfl⟩
      have l2 : r2.length ≤ 400000000 := by rw [← h2]; first | (simp; done) | (simp; omega)
      have A2 : ∀ w, (Op.stringOp .add (mkS r1) (mkS nt)).run Tryz.prog w = .ok (.string (mkS r2)) w := fun w => by rw [← h2]; exact cat_is Tryz.prog w r1 nt (by first | omega | (simp; done) | (simp; omega))
      obtain ⟨r3, h3⟩ : ∃ r, r2 ++ ([78, 85, 76, 76] : List UInt8) = r := ⟨_, rfl⟩
      have l3 : r3.length ≤ 600000000 := by rw [← h3]; first | (simp; done) | (simp; omega)
      have A3 : ∀ w, (Op.stringOp .add (mkS r2) ⟨#[78, 85, 76, 76]⟩).run Tryz.prog w = .ok (.string (mkS r3)) w := fun w => by rw [← h3]; exact cat_is Tryz.prog w r2 ([78, 85, 76, 76] : List UInt8) (by first | omega | (simp; done) | (simp; omega))
      have HZ : Hid (T a ++ [32, 73, 83, 32] ++ (if n.M = 1 then [78, 79, 84, 32] else []) ++ [78, 85, 76, 76] = r3) := by
        show _ = _
        rw [← h3, ← h2, ← h1, ← hnt]
      clear h1 l1 h2 l2 h3 l3
      clear hnt
      generalize T a = ta at *
      go_upto_region 39 with fail
      refine wp_region_held_drew (S := fun x => x.cell? ⟨g3, 0, none⟩ = some (.string (mkS ta)) ∧ x.cell? ⟨w.heap.size, 2, none⟩ = some (.int .i64 n.M)) (by kernel_rfl) (by refine ⟨?_, ?_⟩ <;> simp [go_sem, *]) (fun hHeld => ?_)
      refine tW 0 169 (.slice (some ⟨g3, 0, none⟩) 1 cap3) ?_
      simp only [puts]
      refine tW 1 170 (.pointer (some ⟨g3, 0, none⟩)) ?_
      simp only [puts]
      refine tW 2 171 (.string (mkS ta)) ?_
      simp only [puts]
      refine tW 3 172 (.string (mkS r1)) ?_
      simp only [puts]
      refine tW 4 173 (.pointer (some ⟨w.heap.size, 2, none⟩)) ?_
      simp only [puts]
      refine tW 5 174 (.int .i64 n.M) ?_
      simp only [puts]
      refine wpAnyH_ready (rs := [6]) (by kernel_rfl) (by simp) ?_
      refine AllReadyH.cons rfl (fun Kx hK => ?_) AllReadyH.nil
      go_simp
      refine (unhide HNt _).mono ?_
      rintro e w1 ⟨rfl, rfl⟩
      refine hK.out _ _ hHeld (fun hHeld2 => ?_)
      clear hK Kx
      refine tW 7 176 (.string (mkS r2)) ?_
      simp only [puts]
      refine tW 8 177 (.string (mkS r3)) ?_
      simp only [puts]
      refine tW 9 4 (.string (mkS r3)) ?_
      simp only [puts]
      refine wpAnyH_done (by kernel_rfl) ?_ _
      go_wp2
      go_returns
      refine ⟨?_, (unhide HB).drew⟩
      rw [← unhide HZ0, unhide HZ]
      rfl
set_option maxRecDepth 100000 in
set_option maxHeartbeats 8000000 in
theorem text_10 (ns : List Nd) (g cap i : Nat) (n : Nd) (w : World) (_ : g < w.heap.size) (hn : NodesAt w g 0 ns) (hni : ns[i]? = some n) (hK : n.K = 10) (a : Int) (hab : n.Kids = [a]) (hm : n.Kids.length ≤ 10000) (hk : ∀ x ∈ n.Kids, 0 ≤ x ∧ x < (ns.length : Int)) (T : Int → List UInt8) (hT : ∀ x ∈ n.Kids, (T x).length ≤ 5000000) (HC : ∀ W, Below w.heap.size w W → ∀ x ∈ n.Kids, Calls Tryz.prog 11 #[.slice (some ⟨g, 0, none⟩) ns.length cap, .int .i64 x] W fun e w' => e = .returned (.string (mkS (T x))) ∧ Below W.heap.size W w') :
    Calls Tryz.prog 11 #[.slice (some ⟨g, 0, none⟩) ns.length cap, .int .i64 (i : Int)] w fun e w' => e = .returned (.string (mkS ([69, 88, 73, 83, 84, 83, 32, 40, 32] ++ T a ++ [32, 41]))) ∧ Below w.heap.size w w' := by
  obtain ⟨ti, hti, hz⟩ := Option.map_eq_some_iff.1 (show (Tryz.prog.info? 9).map (fun i => (i.zero, i.size, i.bytes)) = some (some (.string ByteArray.empty), 1, 16) by kernel_rfl)
  simp only [Prod.mk.injEq] at hz
  obtain ⟨hz0, hz1, hz2⟩ := hz
  have hi : i < ns.length := (List.getElem?_eq_some_iff.1 hni).1
  obtain ⟨⟨x0, x1, x2, x3, x4⟩, kg, x5, _, hkg, hks⟩ := hn i n hni
  simp only [Nat.zero_add] at x0 x1 x2 x3 x4 x5
  rw [hK] at x0
  have j0 : (i : Int) < (ns.length : Int) := by omega
  obtain ⟨Z, hZ⟩ : ∃ Z : List UInt8, [69, 88, 73, 83, 84, 83, 32, 40, 32] ++ T a ++ [32, 41] = Z := ⟨_, rfl⟩
  rw [hZ]
  have HZ0 := hide hZ
  clear hZ
  have Hhk := hide hk
  have HhT := hide hT
  have HHC := hide HC
  have Hhab := hide hab
  have HN := hide hn
  have HKs := hide hks
  clear hn hks hni hk hT HC hab
  go_enter Tryz.func11, Tryz.ntmps11
  go_wp2
  go_loopw [6, 7] (fun v c wr => ∃ (k : Nat) (fs : List (List UInt8)), k ≤ n.Kids.length ∧ c = .int .i64 k ∧ fs = (n.Kids.take k).map T ∧ wr.ownsRow (w.heap.size + 1) 9 1 v fs.length (strs fs) ∧ w.heap.size + 1 ≤ wr.heap.size ∧ Below (w.heap.size + 1) (w.alloc (.cells #[.int .i64 10, .int .i64 n.N, .int .i64 n.M, .string n.S, .string n.T, .slice (some ⟨kg, 0, none⟩) n.Kids.length n.Kids.length] 54)) wr) (fun _ c _ => n.Kids.length - (intOf c).toNat)
  case atStart => exact ⟨0, [], Nat.zero_le _, rfl, by simp, own_new _ _ (by simp), by simp, (Below.refl _ _).alloc (by simp) _⟩
  case round =>
    obtain ⟨k, fs, hk2, rfl, hfs, hown, hsz, hbx⟩ := hrel
    have HO := hide hown; have HX := hide hbx; have HFs := hide hfs
    have HB : Hid (Below w.heap.size w wr) := (bA (Below.refl _ _) _).trans (hbx.mono (Nat.le_succ _))
    have b0 : wr.cell? ⟨w.heap.size, 0, none⟩ = some (.int .i64 10) := (hbx.cell (p := ⟨w.heap.size, 0, none⟩) (Nat.lt_succ_self _)).trans (by simp [go_sem])
    have b1 : wr.cell? ⟨w.heap.size, 1, none⟩ = some (.int .i64 n.N) := (hbx.cell (p := ⟨w.heap.size, 1, none⟩) (Nat.lt_succ_self _)).trans (by simp [go_sem])
    have b2 : wr.cell? ⟨w.heap.size, 2, none⟩ = some (.int .i64 n.M) := (hbx.cell (p := ⟨w.heap.size, 2, none⟩) (Nat.lt_succ_self _)).trans (by simp [go_sem])
    have b3 : wr.cell? ⟨w.heap.size, 3, none⟩ = some (.string n.S) := (hbx.cell (p := ⟨w.heap.size, 3, none⟩) (Nat.lt_succ_self _)).trans (by simp [go_sem])
    have b4 : wr.cell? ⟨w.heap.size, 4, none⟩ = some (.string n.T) := (hbx.cell (p := ⟨w.heap.size, 4, none⟩) (Nat.lt_succ_self _)).trans (by simp [go_sem])
    have b5 : wr.cell? ⟨w.heap.size, 5, none⟩ = some (.slice (some ⟨kg, 0, none⟩) n.Kids.length n.Kids.length) := (hbx.cell (p := ⟨w.heap.size, 5, none⟩) (Nat.lt_succ_self _)).trans (by simp [go_sem])
    clear hown hbx hfs
    have s3 : w.heap.size < wr.heap.size := by omega
    by_cases hlt : k < n.Kids.length
    · have j1 : (k : Int) < (n.Kids.length : Int) := by omega
      obtain ⟨x, hx⟩ : ∃ x, n.Kids[k]? = some x := ⟨n.Kids[k], List.getElem?_eq_getElem hlt⟩
      have hxm : x ∈ n.Kids := List.mem_of_getElem? hx
      obtain ⟨p, rfl⟩ : ∃ p : Nat, x = (p : Int) := ⟨x.toNat, by have := (unhide Hhk x hxm).1; omega⟩
      have c1 : wr.cell? ⟨kg, k, none⟩ = some (.int .i64 (p : Int)) := by
        have := unhide HKs k _ hx
        rw [Nat.zero_add] at this
        exact ((bcell (unhide HB)).1 kg k hkg).trans this
      have s1 : kg < wr.heap.size := by omega
      have HCx := hide (unhide HHC wr (unhide HB) _ hxm)
      have HTk : Hid ((n.Kids.take (k + 1)).map T = (n.Kids.take k).map T ++ [T (p : Int)]) := by
        show _ = _
        rw [List.take_add_one, hx, List.map_append]
        rfl
      have hfl : fs.length ≤ 10000 := by rw [unhide HFs]; simp; omega
      clear hx hxm
      generalize T (p : Int) = t at *
      go_wp2_with fail
      refine (unhide HCx).mono ?_
      rintro e w1 ⟨rfl, hb1⟩
      have HO1 := hide (bA_own t (ownB (unhide HO) hb1))
      have HX1 : Hid (Below (w.heap.size + 1) (w.alloc (.cells #[.int .i64 10, .int .i64 n.N, .int .i64 n.M, .string n.S, .string n.T, .slice (some ⟨kg, 0, none⟩) n.Kids.length n.Kids.length] 54)) w1) := (unhide HX).trans (hb1.mono hsz)
      have s31 : w.heap.size < w1.heap.size := Nat.lt_of_lt_of_le s3 hb1.size
      clear hb1 HCx
      go_wp2_with (at_builtin; refine wpList_append_lies _ rfl (.tmp 68) (.tmp 76) 37 rfl (w.heap.size + 1) 9 ti _ 1 16 Tryz.underlying37 hti hz0 hz1 hz2 rfl (by decide) _ fs.length (strs fs) rfl (unhide HO1).1 ⟨w1.heap.size, 0, none⟩ 1 1 (strs [t]) rfl rfl (unhide HO1).2 (strs_one [t]) (by decide) (by unfold maxLen; omega) (by omega) (by simp; omega) _ rfl ?_; intro g2 c2 w2 hown2 hgrow hat hlt2; have HBg := hide (own_grown (unhide HO1).1 hgrow (by simp; omega)))
      go_roundw
      case rel =>
        refine ⟨k + 1, fs ++ [t], by omega, by go_num, by rw [unhide HTk, unhide HFs], by rw [List.length_append, strs_app]; exact hown2, ?_, (((unhide HX1).alloc (by omega) _).trans (unhide HBg))⟩
        have := (unhide HBg).size
        simp at this
        omega
      case measure => simp [intOf]; omega
    · obtain rfl : k = n.Kids.length := by omega
      have hfs : fs = n.Kids.map T := by rw [unhide HFs, List.take_length]
      have hfa : fs = [T a] := by rw [hfs, unhide Hhab]; rfl
      have hTa := unhide HhT a (by rw [unhide Hhab]; simp)
      clear hfs HFs
      subst hfa
      obtain ⟨g3, cap3, rfl, hg3, _, hc3⟩ := own_cells (unhide HO) (by simp)
      have e0 := hc3 0 (T a) rfl
      clear hc3
      obtain ⟨r1, h1⟩ : ∃ r, ([69, 88, 73, 83, 84, 83, 32, 40, 32] : List UInt8) ++ (T a) = r := ⟨_, rfl⟩
      have l1 : r1.length ≤ 200000000 := by rw [← h1]; first | (simp; done) | (simp; omega)
      have A1 : ∀ w, (Op.stringOp .add ⟨#[69, 88, 73, 83, 84, 83, 32, 40, 32]⟩ (mkS (T a))).run Tryz.prog w = .ok (.string (mkS r1)) w := fun w => by rw [← h1]; exact cat_is Tryz.prog w ([69, 88, 73, 83, 84, 83, 32, 40, 32] : List UInt8) (T a) (by first | omega | (simp; done) | (simp; omega))
      obtain ⟨r2, h2⟩ : ∃ r, r1 ++ ([32, 41] : List UInt8) = r := ⟨_, rfl⟩
      have l2 : r2.length ≤ 400000000 := by rw [← h2]; first | (simp; done) | (simp; omega)
      have A2 : ∀ w, (Op.stringOp .add (mkS r1) ⟨#[32, 41]⟩).run Tryz.prog w = .ok (.string (mkS r2)) w := fun w => by rw [← h2]; exact cat_is Tryz.prog w r1 ([32, 41] : List UInt8) (by first | omega | (simp; done) | (simp; omega))
      have HZ : Hid ([69, 88, 73, 83, 84, 83, 32, 40, 32] ++ T a ++ [32, 41] = r2) := by
        show _ = _
        rw [← h2, ← h1]
      clear h1 l1 h2 l2
      generalize T a = ta at *
      go_wp2
      go_returns
      refine ⟨?_, unhide HB⟩
      rw [← unhide HZ0, unhide HZ]
      rfl
set_option maxRecDepth 100000 in
set_option maxHeartbeats 8000000 in
theorem text_13 (ns : List Nd) (g cap i : Nat) (n : Nd) (w : World) (_ : g < w.heap.size) (hn : NodesAt w g 0 ns) (hni : ns[i]? = some n) (hK : n.K = 13) (a : Int) (hab : n.Kids = [a]) (hm : n.Kids.length ≤ 10000) (hk : ∀ x ∈ n.Kids, 0 ≤ x ∧ x < (ns.length : Int)) (T : Int → List UInt8) (hT : ∀ x ∈ n.Kids, (T x).length ≤ 5000000) (HC : ∀ W, Below w.heap.size w W → ∀ x ∈ n.Kids, Calls Tryz.prog 23 #[.slice (some ⟨g, 0, none⟩) ns.length cap, .int .i64 x, .int .i64 14, .int .i64 15] W fun e w' => e = .returned (.string (mkS (T x))) ∧ Below W.heap.size W w') :
    Calls Tryz.prog 11 #[.slice (some ⟨g, 0, none⟩) ns.length cap, .int .i64 (i : Int)] w fun e w' => e = .returned (.string (mkS ([78, 79, 84, 32] ++ T a))) ∧ Below w.heap.size w w' := by
  obtain ⟨ti, hti, hz⟩ := Option.map_eq_some_iff.1 (show (Tryz.prog.info? 9).map (fun i => (i.zero, i.size, i.bytes)) = some (some (.string ByteArray.empty), 1, 16) by kernel_rfl)
  simp only [Prod.mk.injEq] at hz
  obtain ⟨hz0, hz1, hz2⟩ := hz
  have hi : i < ns.length := (List.getElem?_eq_some_iff.1 hni).1
  obtain ⟨⟨x0, x1, x2, x3, x4⟩, kg, x5, _, hkg, hks⟩ := hn i n hni
  simp only [Nat.zero_add] at x0 x1 x2 x3 x4 x5
  rw [hK] at x0
  have j0 : (i : Int) < (ns.length : Int) := by omega
  obtain ⟨Z, hZ⟩ : ∃ Z : List UInt8, [78, 79, 84, 32] ++ T a = Z := ⟨_, rfl⟩
  rw [hZ]
  have HZ0 := hide hZ
  clear hZ
  have Hhk := hide hk
  have HhT := hide hT
  have HHC := hide HC
  have Hhab := hide hab
  have HN := hide hn
  have HKs := hide hks
  clear hn hks hni hk hT HC hab
  go_enter Tryz.func11, Tryz.ntmps11
  go_wp2
  go_loopw [6, 7] (fun v c wr => ∃ (k : Nat) (fs : List (List UInt8)), k ≤ n.Kids.length ∧ c = .int .i64 k ∧ fs = (n.Kids.take k).map T ∧ wr.ownsRow (w.heap.size + 1) 9 1 v fs.length (strs fs) ∧ w.heap.size + 1 ≤ wr.heap.size ∧ Below (w.heap.size + 1) (w.alloc (.cells #[.int .i64 13, .int .i64 n.N, .int .i64 n.M, .string n.S, .string n.T, .slice (some ⟨kg, 0, none⟩) n.Kids.length n.Kids.length] 54)) wr) (fun _ c _ => n.Kids.length - (intOf c).toNat)
  case atStart => exact ⟨0, [], Nat.zero_le _, rfl, by simp, own_new _ _ (by simp), by simp, (Below.refl _ _).alloc (by simp) _⟩
  case round =>
    obtain ⟨k, fs, hk2, rfl, hfs, hown, hsz, hbx⟩ := hrel
    have HO := hide hown; have HX := hide hbx; have HFs := hide hfs
    have HB : Hid (Below w.heap.size w wr) := (bA (Below.refl _ _) _).trans (hbx.mono (Nat.le_succ _))
    have b0 : wr.cell? ⟨w.heap.size, 0, none⟩ = some (.int .i64 13) := (hbx.cell (p := ⟨w.heap.size, 0, none⟩) (Nat.lt_succ_self _)).trans (by simp [go_sem])
    have b1 : wr.cell? ⟨w.heap.size, 1, none⟩ = some (.int .i64 n.N) := (hbx.cell (p := ⟨w.heap.size, 1, none⟩) (Nat.lt_succ_self _)).trans (by simp [go_sem])
    have b2 : wr.cell? ⟨w.heap.size, 2, none⟩ = some (.int .i64 n.M) := (hbx.cell (p := ⟨w.heap.size, 2, none⟩) (Nat.lt_succ_self _)).trans (by simp [go_sem])
    have b3 : wr.cell? ⟨w.heap.size, 3, none⟩ = some (.string n.S) := (hbx.cell (p := ⟨w.heap.size, 3, none⟩) (Nat.lt_succ_self _)).trans (by simp [go_sem])
    have b4 : wr.cell? ⟨w.heap.size, 4, none⟩ = some (.string n.T) := (hbx.cell (p := ⟨w.heap.size, 4, none⟩) (Nat.lt_succ_self _)).trans (by simp [go_sem])
    have b5 : wr.cell? ⟨w.heap.size, 5, none⟩ = some (.slice (some ⟨kg, 0, none⟩) n.Kids.length n.Kids.length) := (hbx.cell (p := ⟨w.heap.size, 5, none⟩) (Nat.lt_succ_self _)).trans (by simp [go_sem])
    clear hown hbx hfs
    have s3 : w.heap.size < wr.heap.size := by omega
    by_cases hlt : k < n.Kids.length
    · have j1 : (k : Int) < (n.Kids.length : Int) := by omega
      obtain ⟨x, hx⟩ : ∃ x, n.Kids[k]? = some x := ⟨n.Kids[k], List.getElem?_eq_getElem hlt⟩
      have hxm : x ∈ n.Kids := List.mem_of_getElem? hx
      obtain ⟨p, rfl⟩ : ∃ p : Nat, x = (p : Int) := ⟨x.toNat, by have := (unhide Hhk x hxm).1; omega⟩
      have c1 : wr.cell? ⟨kg, k, none⟩ = some (.int .i64 (p : Int)) := by
        have := unhide HKs k _ hx
        rw [Nat.zero_add] at this
        exact ((bcell (unhide HB)).1 kg k hkg).trans this
      have s1 : kg < wr.heap.size := by omega
      have HCx := hide (unhide HHC wr (unhide HB) _ hxm)
      have HTk : Hid ((n.Kids.take (k + 1)).map T = (n.Kids.take k).map T ++ [T (p : Int)]) := by
        show _ = _
        rw [List.take_add_one, hx, List.map_append]
        rfl
      have hfl : fs.length ≤ 10000 := by rw [unhide HFs]; simp; omega
      clear hx hxm
      generalize T (p : Int) = t at *
      go_wp2_with fail
      refine (unhide HCx).mono ?_
      rintro e w1 ⟨rfl, hb1⟩
      have HO1 := hide (bA_own t (ownB (unhide HO) hb1))
      have HX1 : Hid (Below (w.heap.size + 1) (w.alloc (.cells #[.int .i64 13, .int .i64 n.N, .int .i64 n.M, .string n.S, .string n.T, .slice (some ⟨kg, 0, none⟩) n.Kids.length n.Kids.length] 54)) w1) := (unhide HX).trans (hb1.mono hsz)
      have s31 : w.heap.size < w1.heap.size := Nat.lt_of_lt_of_le s3 hb1.size
      clear hb1 HCx
      go_wp2_with (at_builtin; refine wpList_append_lies _ rfl (.tmp 31) (.tmp 39) 37 rfl (w.heap.size + 1) 9 ti _ 1 16 Tryz.underlying37 hti hz0 hz1 hz2 rfl (by decide) _ fs.length (strs fs) rfl (unhide HO1).1 ⟨w1.heap.size, 0, none⟩ 1 1 (strs [t]) rfl rfl (unhide HO1).2 (strs_one [t]) (by decide) (by unfold maxLen; omega) (by omega) (by simp; omega) _ rfl ?_; intro g2 c2 w2 hown2 hgrow hat hlt2; have HBg := hide (own_grown (unhide HO1).1 hgrow (by simp; omega)))
      go_roundw
      case rel =>
        refine ⟨k + 1, fs ++ [t], by omega, by go_num, by rw [unhide HTk, unhide HFs], by rw [List.length_append, strs_app]; exact hown2, ?_, (((unhide HX1).alloc (by omega) _).trans (unhide HBg))⟩
        have := (unhide HBg).size
        simp at this
        omega
      case measure => simp [intOf]; omega
    · obtain rfl : k = n.Kids.length := by omega
      have hfs : fs = n.Kids.map T := by rw [unhide HFs, List.take_length]
      have hfa : fs = [T a] := by rw [hfs, unhide Hhab]; rfl
      have hTa := unhide HhT a (by rw [unhide Hhab]; simp)
      clear hfs HFs
      subst hfa
      obtain ⟨g3, cap3, rfl, hg3, _, hc3⟩ := own_cells (unhide HO) (by simp)
      have e0 := hc3 0 (T a) rfl
      clear hc3
      obtain ⟨r1, h1⟩ : ∃ r, ([78, 79, 84, 32] : List UInt8) ++ (T a) = r := ⟨_, rfl⟩
      have l1 : r1.length ≤ 200000000 := by rw [← h1]; first | (simp; done) | (simp; omega)
      have A1 : ∀ w, (Op.stringOp .add ⟨#[78, 79, 84, 32]⟩ (mkS (T a))).run Tryz.prog w = .ok (.string (mkS r1)) w := fun w => by rw [← h1]; exact cat_is Tryz.prog w ([78, 79, 84, 32] : List UInt8) (T a) (by first | omega | (simp; done) | (simp; omega))
      have HZ : Hid ([78, 79, 84, 32] ++ T a = r1) := by
        show _ = _
        rw [← h1]
      clear h1 l1
      generalize T a = ta at *
      go_wp2
      go_returns
      refine ⟨?_, unhide HB⟩
      rw [← unhide HZ0, unhide HZ]
      rfl
end Go.Proofs.YtmcbmmpjhijagaaGreatDoor
