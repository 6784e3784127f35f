import Derived.Test.YtmcbmmpjhijagaaGreatDoorPrTxB
import Derived.Test.YtmcbmmpjhijagaaGreatDoorQ8
namespace Go.Proofs.YtmcbmmpjhijagaaGreatDoor
open Go Go.RowKit
set_option maxRecDepth 100000 in
set_option maxHeartbeats 8000000 in
theorem text_11 (ns : List Nd) (g cap i : Nat) (n : Nd) (w : World) (_ : g < w.heap.size) (hn : NodesAt w g 0 ns) (hni : ns[i]? = some n) (hK : n.K = 11) (a b : Int) (hab : n.Kids = [a, b]) (hm : n.Kids.length ≤ 10000) (hk : ∀ x ∈ n.Kids, 0 ≤ x ∧ x < (ns.length : Int)) (T : Int → List UInt8) (hT : ∀ x ∈ n.Kids, (T x).length ≤ 5000000) (HC : ∀ W, Below w.heap.size w W → ∀ x ∈ n.Kids, Calls Tryz.prog 11 #[.slice (some ⟨g, 0, none⟩) ns.length cap, .int .i64 x] W fun e w' => e = .returned (.string (mkS (T x))) ∧ Below W.heap.size W w') :
    Calls Tryz.prog 11 #[.slice (some ⟨g, 0, none⟩) ns.length cap, .int .i64 (i : Int)] w fun e w' => e = .returned (.string (mkS (T a ++ [32] ++ (if n.M = 1 then [78, 79, 84, 32] else []) ++ [73, 78, 32, 40, 32] ++ T b ++ [32, 41]))) ∧ Below w.heap.size w w' := by
  obtain ⟨ti, hti, hz⟩ := Option.map_eq_some_iff.1 (show (Tryz.prog.info? 9).map (fun i => (i.zero, i.size, i.bytes)) = some (some (.string ByteArray.empty), 1, 16) by kernel_rfl)
  simp only [Prod.mk.injEq] at hz
  obtain ⟨hz0, hz1, hz2⟩ := hz
  have hi : i < ns.length := (List.getElem?_eq_some_iff.1 hni).1
  obtain ⟨⟨x0, x1, x2, x3, x4⟩, kg, x5, _, hkg, hks⟩ := hn i n hni
  simp only [Nat.zero_add] at x0 x1 x2 x3 x4 x5
  rw [hK] at x0
  have j0 : (i : Int) < (ns.length : Int) := by omega
  obtain ⟨Z, hZ⟩ : ∃ Z : List UInt8, T a ++ [32] ++ (if n.M = 1 then [78, 79, 84, 32] else []) ++ [73, 78, 32, 40, 32] ++ T b ++ [32, 41] = Z := ⟨_, rfl⟩
  rw [hZ]
  have HZ0 := hide hZ
  clear hZ
  have Hhk := hide hk
  have HhT := hide hT
  have HHC := hide HC
  have Hhab := hide hab
  have HN := hide hn
  have HKs := hide hks
  clear hn hks hni hk hT HC hab
  go_enter Tryz.func11, Tryz.ntmps11
  go_wp2
  go_loopw [6, 7] (fun v c wr => ∃ (k : Nat) (fs : List (List UInt8)), k ≤ n.Kids.length ∧ c = .int .i64 k ∧ fs = (n.Kids.take k).map T ∧ wr.ownsRow (w.heap.size + 1) 9 1 v fs.length (strs fs) ∧ w.heap.size + 1 ≤ wr.heap.size ∧ Below (w.heap.size + 1) (w.alloc (.cells #[.int .i64 11, .int .i64 n.N, .int .i64 n.M, .string n.S, .string n.T, .slice (some ⟨kg, 0, none⟩) n.Kids.length n.Kids.length] 54)) wr) (fun _ c _ => n.Kids.length - (intOf c).toNat)
  case atStart => exact ⟨0, [], Nat.zero_le _, rfl, by simp, own_new _ _ (by simp), by simp, (Below.refl _ _).alloc (by simp) _⟩
  case round =>
    obtain ⟨k, fs, hk2, rfl, hfs, hown, hsz, hbx⟩ := hrel
    have HO := hide hown; have HX := hide hbx; have HFs := hide hfs
    have HB : Hid (Below w.heap.size w wr) := (bA (Below.refl _ _) _).trans (hbx.mono (Nat.le_succ _))
    have b0 : wr.cell? ⟨w.heap.size, 0, none⟩ = some (.int .i64 11) := (hbx.cell (p := ⟨w.heap.size, 0, none⟩) (Nat.lt_succ_self _)).trans (by simp [go_sem])
    have b1 : wr.cell? ⟨w.heap.size, 1, none⟩ = some (.int .i64 n.N) := (hbx.cell (p := ⟨w.heap.size, 1, none⟩) (Nat.lt_succ_self _)).trans (by simp [go_sem])
    have b2 : wr.cell? ⟨w.heap.size, 2, none⟩ = some (.int .i64 n.M) := (hbx.cell (p := ⟨w.heap.size, 2, none⟩) (Nat.lt_succ_self _)).trans (by simp [go_sem])
    have b3 : wr.cell? ⟨w.heap.size, 3, none⟩ = some (.string n.S) := (hbx.cell (p := ⟨w.heap.size, 3, none⟩) (Nat.lt_succ_self _)).trans (by simp [go_sem])
    have b4 : wr.cell? ⟨w.heap.size, 4, none⟩ = some (.string n.T) := (hbx.cell (p := ⟨w.heap.size, 4, none⟩) (Nat.lt_succ_self _)).trans (by simp [go_sem])
    have b5 : wr.cell? ⟨w.heap.size, 5, none⟩ = some (.slice (some ⟨kg, 0, none⟩) n.Kids.length n.Kids.length) := (hbx.cell (p := ⟨w.heap.size, 5, none⟩) (Nat.lt_succ_self _)).trans (by simp [go_sem])
    clear hown hbx hfs
    have s3 : w.heap.size < wr.heap.size := by omega
    by_cases hlt : k < n.Kids.length
    · have j1 : (k : Int) < (n.Kids.length : Int) := by omega
      obtain ⟨x, hx⟩ : ∃ x, n.Kids[k]? = some x := ⟨n.Kids[k], List.getElem?_eq_getElem hlt⟩
      have hxm : x ∈ n.Kids := List.mem_of_getElem? hx
      obtain ⟨p, rfl⟩ : ∃ p : Nat, x = (p : Int) := ⟨x.toNat, by have := (unhide Hhk x hxm).1; omega⟩
      have c1 : wr.cell? ⟨kg, k, none⟩ = some (.int .i64 (p : Int)) := by
        have := unhide HKs k _ hx
        rw [Nat.zero_add] at this
        exact ((bcell (unhide HB)).1 kg k hkg).trans this
      have s1 : kg < wr.heap.size := by omega
      have HCx := hide (unhide HHC wr (unhide HB) _ hxm)
      have HTk : Hid ((n.Kids.take (k + 1)).map T = (n.Kids.take k).map T ++ [T (p : Int)]) := by
        show _ = _
        rw [List.take_add_one, hx, List.map_append]
        rfl
      have hfl : fs.length ≤ 10000 := by rw [unhide HFs]; simp; omega
      clear hx hxm
      generalize T (p : Int) = t at *
      go_wp2_with fail
      refine (unhide HCx).mono ?_
      rintro e w1 ⟨rfl, hb1⟩
      have HO1 := hide (bA_own t (ownB (unhide HO) hb1))
      have HX1 : Hid (Below (w.heap.size + 1) (w.alloc (.cells #[.int .i64 11, .int .i64 n.N, .int .i64 n.M, .string n.S, .string n.T, .slice (some ⟨kg, 0, none⟩) n.Kids.length n.Kids.length] 54)) w1) := (unhide HX).trans (hb1.mono hsz)
      have s31 : w.heap.size < w1.heap.size := Nat.lt_of_lt_of_le s3 hb1.size
      clear hb1 HCx
      go_wp2_with (at_builtin; refine wpList_append_lies _ rfl (.tmp 68) (.tmp 76) 37 rfl (w.heap.size + 1) 9 ti _ 1 16 Tryz.underlying37 hti hz0 hz1 hz2 rfl (by decide) _ fs.length (strs fs) rfl (unhide HO1).1 ⟨w1.heap.size, 0, none⟩ 1 1 (strs [t]) rfl rfl (unhide HO1).2 (strs_one [t]) (by decide) (by unfold maxLen; omega) (by omega) (by simp; omega) _ rfl ?_; intro g2 c2 w2 hown2 hgrow hat hlt2; have HBg := hide (own_grown (unhide HO1).1 hgrow (by simp; omega)))
      go_roundw
      case rel =>
        refine ⟨k + 1, fs ++ [t], by omega, by go_num, by rw [unhide HTk, unhide HFs], by rw [List.length_append, strs_app]; exact hown2, ?_, (((unhide HX1).alloc (by omega) _).trans (unhide HBg))⟩
        have := (unhide HBg).size
        simp at this
        omega
      case measure => simp [intOf]; omega
    · obtain rfl : k = n.Kids.length := by omega
      have hfs : fs = n.Kids.map T := by rw [unhide HFs, List.take_length]
      have hfa : fs = [T a, T b] := by rw [hfs, unhide Hhab]; rfl
      have hTa := unhide HhT a (by rw [unhide Hhab]; simp)
      have hTb := unhide HhT b (by rw [unhide Hhab]; simp)
      clear hfs HFs
      subst hfa
      obtain ⟨g3, cap3, rfl, hg3, _, hc3⟩ := own_cells (unhide HO) (by simp)
      have e0 := hc3 0 (T a) rfl
      have e1 := hc3 1 (T b) rfl
      clear hc3
      have HNt := hide (fun W => l2Not_calls n.M W)
      obtain ⟨nt, hnt⟩ : ∃ nt : List UInt8, (if n.M = 1 then [78, 79, 84, 32] else []) = nt := ⟨_, rfl⟩
      have hntl : nt.length ≤ 4 := by rw [← hnt]; split <;> simp
      rw [hnt] at HNt
      obtain ⟨r1, h1⟩ : ∃ r, (T a) ++ ([32] : List UInt8) = r := ⟨_, rfl⟩
      have l1 : r1.length ≤ 200000000 := by rw [← h1]; first | (simp; done) | (simp; omega)
      have A1 : ∀ w, (Op.stringOp .add (mkS (T a)) ⟨#[32]⟩).run Tryz.prog w = .ok (.string (mkS r1)) w := fun w => by rw [← h1]; exact cat_is Tryz.prog w (T a) ([32] : List UInt8) (by first | omega | (simp; done) | (simp; omega))
      obtain ⟨r2, h2⟩ : ∃ r, r1 ++ nt = r := ⟨_, rfl⟩
      have l2 : r2.length ≤ 400000000 := by rw [← h2]; first | (simp; done) | (simp; omega)
      have A2 : ∀ w, (Op.stringOp .add (mkS r1) (mkS nt)).run Tryz.prog w = .ok (.string (mkS r2)) w := fun w => by rw [← h2]; exact cat_is Tryz.prog w r1 nt (by first | omega | (simp; done) | (simp; omega))
      obtain ⟨r3, h3⟩ : ∃ r, r2 ++ ([73, 78, 32, 40, 32] : List UInt8) = r := ⟨_, rfl⟩
      have l3 : r3.length ≤ 600000000 := by rw [← h3]; first | (simp; done) | (simp; omega)
      have A3 : ∀ w, (Op.stringOp .add (mkS r2) ⟨#[73, 78, 32, 40, 32]⟩).run Tryz.prog w = .ok (.string (mkS r3)) w := fun w => by rw [← h3]; exact cat_is Tryz.prog w r2 ([73, 78, 32, 40, 32] : List UInt8) (by first | omega | (simp; done) | (simp; omega))
      obtain ⟨r4, h4⟩ : ∃ r, r3 ++ (T b) = r := ⟨_, rfl⟩
      have l4 : r4.length ≤ 800000000 := by rw [← h4]; first | (simp; done) | (simp; omega)
      have A4 : ∀ w, (Op.stringOp .add (mkS r3) (mkS (T b))).run Tryz.prog w = .ok (.string (mkS r4)) w := fun w => by rw [← h4]; exact cat_is Tryz.prog w r3 (T b) (by first | omega | (simp; done) | (simp; omega))
      obtain ⟨r5, h5⟩ : ∃ r, r4 ++ ([32, 41] : List UInt8) = r := ⟨_, rfl⟩
      have l5 : r5.length ≤ 1000000000 := by rw [← h5]; first | (simp; done) | (simp; omega)
      have A5 : ∀ w, (Op.stringOp .add (mkS r4) ⟨#[32, 41]⟩).run Tryz.prog w = .ok (.string (mkS r5)) w := fun w => by rw [← h5]; exact cat_is Tryz.prog w r4 ([32, 41] : List UInt8) (by first | omega | (simp; done) | (simp; omega))
      have HZ : Hid (T a ++ [32] ++ (if n.M = 1 then [78, 79, 84, 32] else []) ++ [73, 78, 32, 40, 32] ++ T b ++ [32, 41] = r5) := by
        show _ = _
        rw [← h5, ← h4, ← h3, ← h2, ← h1, ← hnt]
      clear h1 l1 h2 l2 h3 l3 h4 l4 h5 l5
      clear hnt
      generalize T a = ta at *
      generalize T b = tb at *
      go_upto_region 43 with fail
      refine wp_region_held_drew (S := fun x => x.cell? ⟨g3, 0, none⟩ = some (.string (mkS ta)) ∧ x.cell? ⟨g3, 1, none⟩ = some (.string (mkS tb)) ∧ x.cell? ⟨w.heap.size, 2, none⟩ = some (.int .i64 n.M)) (by kernel_rfl) (by refine ⟨?_, ?_⟩ <;> simp [go_sem, *]) (fun hHeld => ?_)
      refine tW 0 189 (.slice (some ⟨g3, 0, none⟩) 2 cap3) ?_
      simp only [puts]
      refine tW 1 190 (.pointer (some ⟨g3, 0, none⟩)) ?_
      simp only [puts]
      refine tW 2 191 (.string (mkS ta)) ?_
      simp only [puts]
      refine tW 3 192 (.string (mkS r1)) ?_
      simp only [puts]
      refine tW 4 193 (.pointer (some ⟨w.heap.size, 2, none⟩)) ?_
      simp only [puts]
      refine tW 5 194 (.int .i64 n.M) ?_
      simp only [puts]
      refine tW 9 198 (.slice (some ⟨g3, 0, none⟩) 2 cap3) ?_
      simp only [puts]
      refine tW 10 199 (.pointer (some ⟨g3, 1, none⟩)) ?_
      simp only [puts]
      refine tW 11 200 (.string (mkS tb)) ?_
      simp only [puts]
      refine wpAnyH_ready (rs := [6]) (by kernel_rfl) (by simp) ?_
      refine AllReadyH.cons rfl (fun Kx hK => ?_) AllReadyH.nil
      go_simp
      refine (unhide HNt _).mono ?_
      rintro e w1 ⟨rfl, rfl⟩
      refine hK.out _ _ hHeld (fun hHeld2 => ?_)
      clear hK Kx
      refine tW 7 196 (.string (mkS r2)) ?_
      simp only [puts]
      refine tW 8 197 (.string (mkS r3)) ?_
      simp only [puts]
      refine tW 12 201 (.string (mkS r4)) ?_
      simp only [puts]
      refine tW 13 202 (.string (mkS r5)) ?_
      simp only [puts]
      refine tW 14 4 (.string (mkS r5)) ?_
      simp only [puts]
      refine wpAnyH_done (by kernel_rfl) ?_ _
      go_wp2
      go_returns
      refine ⟨?_, (unhide HB).drew⟩
      rw [← unhide HZ0, unhide HZ]
      rfl
set_option maxRecDepth 100000 in
set_option maxHeartbeats 8000000 in
theorem text_12one (ns : List Nd) (g cap i : Nat) (n : Nd) (w : World) (_ : g < w.heap.size) (hn : NodesAt w g 0 ns) (hni : ns[i]? = some n) (hK : n.K = 12) (a b : Int) (hab : n.Kids = [a, b]) (hN : n.N = 1) (hM1 : 1 ≤ n.M) (hM2 : n.M ≤ 6) (hm : n.Kids.length ≤ 10000) (hk : ∀ x ∈ n.Kids, 0 ≤ x ∧ x < (ns.length : Int)) (T : Int → List UInt8) (hT : ∀ x ∈ n.Kids, (T x).length ≤ 5000000) (HC : ∀ W, Below w.heap.size w W → ∀ x ∈ n.Kids, Calls Tryz.prog 11 #[.slice (some ⟨g, 0, none⟩) ns.length cap, .int .i64 x] W fun e w' => e = .returned (.string (mkS (T x))) ∧ Below W.heap.size W w') :
    Calls Tryz.prog 11 #[.slice (some ⟨g, 0, none⟩) ns.length cap, .int .i64 (i : Int)] w fun e w' => e = .returned (.string (mkS (T a ++ [32] ++ comp n.M ++ [32, 65, 78, 89] ++ [32, 40, 32] ++ T b ++ [32, 41]))) ∧ Below w.heap.size w w' := by
  obtain ⟨ti, hti, hz⟩ := Option.map_eq_some_iff.1 (show (Tryz.prog.info? 9).map (fun i => (i.zero, i.size, i.bytes)) = some (some (.string ByteArray.empty), 1, 16) by kernel_rfl)
  simp only [Prod.mk.injEq] at hz
  obtain ⟨hz0, hz1, hz2⟩ := hz
  have hi : i < ns.length := (List.getElem?_eq_some_iff.1 hni).1
  obtain ⟨⟨x0, x1, x2, x3, x4⟩, kg, x5, _, hkg, hks⟩ := hn i n hni
  simp only [Nat.zero_add] at x0 x1 x2 x3 x4 x5
  rw [hK] at x0
  rw [hN] at x1
  have j0 : (i : Int) < (ns.length : Int) := by omega
  obtain ⟨Z, hZ⟩ : ∃ Z : List UInt8, T a ++ [32] ++ comp n.M ++ [32, 65, 78, 89] ++ [32, 40, 32] ++ T b ++ [32, 41] = Z := ⟨_, rfl⟩
  rw [hZ]
  have HZ0 := hide hZ
  clear hZ
  have Hhk := hide hk
  have HhT := hide hT
  have HHC := hide HC
  have Hhab := hide hab
  have HN := hide hn
  have HKs := hide hks
  clear hn hks hni hk hT HC hab
  go_enter Tryz.func11, Tryz.ntmps11
  go_wp2
  go_loopw [6, 7] (fun v c wr => ∃ (k : Nat) (fs : List (List UInt8)), k ≤ n.Kids.length ∧ c = .int .i64 k ∧ fs = (n.Kids.take k).map T ∧ wr.ownsRow (w.heap.size + 1) 9 1 v fs.length (strs fs) ∧ w.heap.size + 1 ≤ wr.heap.size ∧ Below (w.heap.size + 1) (w.alloc (.cells #[.int .i64 12, .int .i64 1, .int .i64 n.M, .string n.S, .string n.T, .slice (some ⟨kg, 0, none⟩) n.Kids.length n.Kids.length] 54)) wr) (fun _ c _ => n.Kids.length - (intOf c).toNat)
  case atStart => exact ⟨0, [], Nat.zero_le _, rfl, by simp, own_new _ _ (by simp), by simp, (Below.refl _ _).alloc (by simp) _⟩
  case round =>
    obtain ⟨k, fs, hk2, rfl, hfs, hown, hsz, hbx⟩ := hrel
    have HO := hide hown; have HX := hide hbx; have HFs := hide hfs
    have HB : Hid (Below w.heap.size w wr) := (bA (Below.refl _ _) _).trans (hbx.mono (Nat.le_succ _))
    have b0 : wr.cell? ⟨w.heap.size, 0, none⟩ = some (.int .i64 12) := (hbx.cell (p := ⟨w.heap.size, 0, none⟩) (Nat.lt_succ_self _)).trans (by simp [go_sem])
    have b1 : wr.cell? ⟨w.heap.size, 1, none⟩ = some (.int .i64 1) := (hbx.cell (p := ⟨w.heap.size, 1, none⟩) (Nat.lt_succ_self _)).trans (by simp [go_sem])
    have b2 : wr.cell? ⟨w.heap.size, 2, none⟩ = some (.int .i64 n.M) := (hbx.cell (p := ⟨w.heap.size, 2, none⟩) (Nat.lt_succ_self _)).trans (by simp [go_sem])
    have b3 : wr.cell? ⟨w.heap.size, 3, none⟩ = some (.string n.S) := (hbx.cell (p := ⟨w.heap.size, 3, none⟩) (Nat.lt_succ_self _)).trans (by simp [go_sem])
    have b4 : wr.cell? ⟨w.heap.size, 4, none⟩ = some (.string n.T) := (hbx.cell (p := ⟨w.heap.size, 4, none⟩) (Nat.lt_succ_self _)).trans (by simp [go_sem])
    have b5 : wr.cell? ⟨w.heap.size, 5, none⟩ = some (.slice (some ⟨kg, 0, none⟩) n.Kids.length n.Kids.length) := (hbx.cell (p := ⟨w.heap.size, 5, none⟩) (Nat.lt_succ_self _)).trans (by simp [go_sem])
    clear hown hbx hfs
    have s3 : w.heap.size < wr.heap.size := by omega
    by_cases hlt : k < n.Kids.length
    · have j1 : (k : Int) < (n.Kids.length : Int) := by omega
      obtain ⟨x, hx⟩ : ∃ x, n.Kids[k]? = some x := ⟨n.Kids[k], List.getElem?_eq_getElem hlt⟩
      have hxm : x ∈ n.Kids := List.mem_of_getElem? hx
      obtain ⟨p, rfl⟩ : ∃ p : Nat, x = (p : Int) := ⟨x.toNat, by have := (unhide Hhk x hxm).1; omega⟩
      have c1 : wr.cell? ⟨kg, k, none⟩ = some (.int .i64 (p : Int)) := by
        have := unhide HKs k _ hx
        rw [Nat.zero_add] at this
        exact ((bcell (unhide HB)).1 kg k hkg).trans this
      have s1 : kg < wr.heap.size := by omega
      have HCx := hide (unhide HHC wr (unhide HB) _ hxm)
      have HTk : Hid ((n.Kids.take (k + 1)).map T = (n.Kids.take k).map T ++ [T (p : Int)]) := by
        show _ = _
        rw [List.take_add_one, hx, List.map_append]
        rfl
      have hfl : fs.length ≤ 10000 := by rw [unhide HFs]; simp; omega
      clear hx hxm
      generalize T (p : Int) = t at *
      go_wp2_with fail
      refine (unhide HCx).mono ?_
      rintro e w1 ⟨rfl, hb1⟩
      have HO1 := hide (bA_own t (ownB (unhide HO) hb1))
      have HX1 : Hid (Below (w.heap.size + 1) (w.alloc (.cells #[.int .i64 12, .int .i64 1, .int .i64 n.M, .string n.S, .string n.T, .slice (some ⟨kg, 0, none⟩) n.Kids.length n.Kids.length] 54)) w1) := (unhide HX).trans (hb1.mono hsz)
      have s31 : w.heap.size < w1.heap.size := Nat.lt_of_lt_of_le s3 hb1.size
      clear hb1 HCx
      go_wp2_with (at_builtin; refine wpList_append_lies _ rfl (.tmp 68) (.tmp 76) 37 rfl (w.heap.size + 1) 9 ti _ 1 16 Tryz.underlying37 hti hz0 hz1 hz2 rfl (by decide) _ fs.length (strs fs) rfl (unhide HO1).1 ⟨w1.heap.size, 0, none⟩ 1 1 (strs [t]) rfl rfl (unhide HO1).2 (strs_one [t]) (by decide) (by unfold maxLen; omega) (by omega) (by simp; omega) _ rfl ?_; intro g2 c2 w2 hown2 hgrow hat hlt2; have HBg := hide (own_grown (unhide HO1).1 hgrow (by simp; omega)))
      go_roundw
      case rel =>
        refine ⟨k + 1, fs ++ [t], by omega, by go_num, by rw [unhide HTk, unhide HFs], by rw [List.length_append, strs_app]; exact hown2, ?_, (((unhide HX1).alloc (by omega) _).trans (unhide HBg))⟩
        have := (unhide HBg).size
        simp at this
        omega
      case measure => simp [intOf]; omega
    · obtain rfl : k = n.Kids.length := by omega
      have hfs : fs = n.Kids.map T := by rw [unhide HFs, List.take_length]
      have hfa : fs = [T a, T b] := by rw [hfs, unhide Hhab]; rfl
      have hTa := unhide HhT a (by rw [unhide Hhab]; simp)
      have hTb := unhide HhT b (by rw [unhide Hhab]; simp)
      clear hfs HFs
      subst hfa
      obtain ⟨g3, cap3, rfl, hg3, _, hc3⟩ := own_cells (unhide HO) (by simp)
      have e0 := hc3 0 (T a) rfl
      have e1 := hc3 1 (T b) rfl
      clear hc3
      have hcl := comp_len n.M
      obtain ⟨r1, h1⟩ : ∃ r, (T a) ++ ([32] : List UInt8) = r := ⟨_, rfl⟩
      have l1 : r1.length ≤ 200000000 := by rw [← h1]; first | (simp; done) | (simp; omega)
      have A1 : ∀ w, (Op.stringOp .add (mkS (T a)) ⟨#[32]⟩).run Tryz.prog w = .ok (.string (mkS r1)) w := fun w => by rw [← h1]; exact cat_is Tryz.prog w (T a) ([32] : List UInt8) (by first | omega | (simp; done) | (simp; omega))
      obtain ⟨r2, h2⟩ : ∃ r, r1 ++ (comp n.M) = r := ⟨_, rfl⟩
      have l2 : r2.length ≤ 400000000 := by rw [← h2]; first | (simp; done) | (simp; omega)
      have A2 : ∀ w, (Op.stringOp .add (mkS r1) (mkS (comp n.M))).run Tryz.prog w = .ok (.string (mkS r2)) w := fun w => by rw [← h2]; exact cat_is Tryz.prog w r1 (comp n.M) (by first | omega | (simp; done) | (simp; omega))
      obtain ⟨r3, h3⟩ : ∃ r, r2 ++ ([32, 65, 78, 89] : List UInt8) = r := ⟨_, rfl⟩
      have l3 : r3.length ≤ 600000000 := by rw [← h3]; first | (simp; done) | (simp; omega)
      have A3 : ∀ w, (Op.stringOp .add (mkS r2) ⟨#[32, 65, 78, 89]⟩).run Tryz.prog w = .ok (.string (mkS r3)) w := fun w => by rw [← h3]; exact cat_is Tryz.prog w r2 ([32, 65, 78, 89] : List UInt8) (by first | omega | (simp; done) | (simp; omega))
      obtain ⟨r4, h4⟩ : ∃ r, r3 ++ ([32, 40, 32] : List UInt8) = r := ⟨_, rfl⟩
      have l4 : r4.length ≤ 800000000 := by rw [← h4]; first | (simp; done) | (simp; omega)
      have A4 : ∀ w, (Op.stringOp .add (mkS r3) ⟨#[32, 40, 32]⟩).run Tryz.prog w = .ok (.string (mkS r4)) w := fun w => by rw [← h4]; exact cat_is Tryz.prog w r3 ([32, 40, 32] : List UInt8) (by first | omega | (simp; done) | (simp; omega))
      obtain ⟨r5, h5⟩ : ∃ r, r4 ++ (T b) = r := ⟨_, rfl⟩
      have l5 : r5.length ≤ 1000000000 := by rw [← h5]; first | (simp; done) | (simp; omega)
      have A5 : ∀ w, (Op.stringOp .add (mkS r4) (mkS (T b))).run Tryz.prog w = .ok (.string (mkS r5)) w := fun w => by rw [← h5]; exact cat_is Tryz.prog w r4 (T b) (by first | omega | (simp; done) | (simp; omega))
      obtain ⟨r6, h6⟩ : ∃ r, r5 ++ ([32, 41] : List UInt8) = r := ⟨_, rfl⟩
      have l6 : r6.length ≤ 1200000000 := by rw [← h6]; first | (simp; done) | (simp; omega)
      have A6 : ∀ w, (Op.stringOp .add (mkS r5) ⟨#[32, 41]⟩).run Tryz.prog w = .ok (.string (mkS r6)) w := fun w => by rw [← h6]; exact cat_is Tryz.prog w r5 ([32, 41] : List UInt8) (by first | omega | (simp; done) | (simp; omega))
      have HZ : Hid (T a ++ [32] ++ comp n.M ++ [32, 65, 78, 89] ++ [32, 40, 32] ++ T b ++ [32, 41] = r6) := by
        show _ = _
        rw [← h6, ← h5, ← h4, ← h3, ← h2, ← h1]
      clear h1 l1 h2 l2 h3 l3 h4 l4 h5 l5 h6 l6
      clear hcl
      generalize T a = ta at *
      generalize T b = tb at *
      go_upto_region 48 with fail
      refine wp_region_held_drew (S := fun x => x.cell? ⟨g3, 0, none⟩ = some (.string (mkS ta)) ∧ x.cell? ⟨g3, 1, none⟩ = some (.string (mkS tb)) ∧ x.cell? ⟨w.heap.size, 2, none⟩ = some (.int .i64 n.M)) (by kernel_rfl) (by refine ⟨?_, ?_⟩ <;> simp [go_sem, *]) (fun hHeld => ?_)
      refine tW 0 209 (.slice (some ⟨g3, 0, none⟩) 2 cap3) ?_
      simp only [puts]
      refine tW 1 210 (.pointer (some ⟨g3, 0, none⟩)) ?_
      simp only [puts]
      refine tW 2 211 (.string (mkS ta)) ?_
      simp only [puts]
      refine tW 3 212 (.string (mkS r1)) ?_
      simp only [puts]
      refine tW 4 213 (.pointer (some ⟨w.heap.size, 2, none⟩)) ?_
      simp only [puts]
      refine tW 5 214 (.int .i64 n.M) ?_
      simp only [puts]
      refine tW 8 217 (.string ⟨#[32, 65, 78, 89]⟩) ?_
      simp only [puts]
      refine tW 11 220 (.slice (some ⟨g3, 0, none⟩) 2 cap3) ?_
      simp only [puts]
      refine tW 12 221 (.pointer (some ⟨g3, 1, none⟩)) ?_
      simp only [puts]
      refine tW 13 222 (.string (mkS tb)) ?_
      simp only [puts]
      refine wpAnyH_ready (rs := [6]) (by kernel_rfl) (by simp) ?_
      refine AllReadyH.cons rfl (fun Kx hK => ?_) AllReadyH.nil
      go_simp
      refine (l2CompText_calls n.M hM1 hM2 _).mono ?_
      rintro e w1 ⟨rfl, rfl⟩
      refine hK.out _ _ hHeld (fun hHeld2 => ?_)
      clear hK Kx
      refine tW 7 216 (.string (mkS r2)) ?_
      simp only [puts]
      refine tW 9 218 (.string (mkS r3)) ?_
      simp only [puts]
      refine tW 10 219 (.string (mkS r4)) ?_
      simp only [puts]
      refine tW 14 223 (.string (mkS r5)) ?_
      simp only [puts]
      refine tW 15 224 (.string (mkS r6)) ?_
      simp only [puts]
      refine tW 16 4 (.string (mkS r6)) ?_
      simp only [puts]
      refine wpAnyH_done (by kernel_rfl) ?_ _
      go_wp2
      go_returns
      refine ⟨?_, (unhide HB).drew⟩
      rw [← unhide HZ0, unhide HZ]
      rfl
set_option maxRecDepth 100000 in
set_option maxHeartbeats 8000000 in
theorem text_12two (ns : List Nd) (g cap i : Nat) (n : Nd) (w : World) (_ : g < w.heap.size) (hn : NodesAt w g 0 ns) (hni : ns[i]? = some n) (hK : n.K = 12) (a b : Int) (hab : n.Kids = [a, b]) (hN : n.N = 2) (hM1 : 1 ≤ n.M) (hM2 : n.M ≤ 6) (hm : n.Kids.length ≤ 10000) (hk : ∀ x ∈ n.Kids, 0 ≤ x ∧ x < (ns.length : Int)) (T : Int → List UInt8) (hT : ∀ x ∈ n.Kids, (T x).length ≤ 5000000) (HC : ∀ W, Below w.heap.size w W → ∀ x ∈ n.Kids, Calls Tryz.prog 11 #[.slice (some ⟨g, 0, none⟩) ns.length cap, .int .i64 x] W fun e w' => e = .returned (.string (mkS (T x))) ∧ Below W.heap.size W w') :
    Calls Tryz.prog 11 #[.slice (some ⟨g, 0, none⟩) ns.length cap, .int .i64 (i : Int)] w fun e w' => e = .returned (.string (mkS (T a ++ [32] ++ comp n.M ++ [32, 65, 76, 76] ++ [32, 40, 32] ++ T b ++ [32, 41]))) ∧ Below w.heap.size w w' := by
  obtain ⟨ti, hti, hz⟩ := Option.map_eq_some_iff.1 (show (Tryz.prog.info? 9).map (fun i => (i.zero, i.size, i.bytes)) = some (some (.string ByteArray.empty), 1, 16) by kernel_rfl)
  simp only [Prod.mk.injEq] at hz
  obtain ⟨hz0, hz1, hz2⟩ := hz
  have hi : i < ns.length := (List.getElem?_eq_some_iff.1 hni).1
  obtain ⟨⟨x0, x1, x2, x3, x4⟩, kg, x5, _, hkg, hks⟩ := hn i n hni
  simp only [Nat.zero_add] at x0 x1 x2 x3 x4 x5
  rw [hK] at x0
  rw [hN] at x1
  have j0 : (i : Int) < (ns.length : Int) := by omega
  obtain ⟨Z, hZ⟩ : ∃ Z : List UInt8, T a ++ [32] ++ comp n.M ++ [32, 65, 76, 76] ++ [32, 40, 32] ++ T b ++ [32, 41] = Z := ⟨_, rfl⟩
  rw [hZ]
  have HZ0 := hide hZ
  clear hZ
  have Hhk := hide hk
  have HhT := hide hT
  have HHC := hide HC
  have Hhab := hide hab
  have HN := hide hn
  have HKs := hide hks
  clear hn hks hni hk hT HC hab
  go_enter Tryz.func11, Tryz.ntmps11
  go_wp2
  go_loopw [6, 7] (fun v c wr => ∃ (k : Nat) (fs : List (List UInt8)), k ≤ n.Kids.length ∧ c = .int .i64 k ∧ fs = (n.Kids.take k).map T ∧ wr.ownsRow (w.heap.size + 1) 9 1 v fs.length (strs fs) ∧ w.heap.size + 1 ≤ wr.heap.size ∧ Below (w.heap.size + 1) (w.alloc (.cells #[.int .i64 12, .int .i64 2, .int .i64 n.M, .string n.S, .string n.T, .slice (some ⟨kg, 0, none⟩) n.Kids.length n.Kids.length] 54)) wr) (fun _ c _ => n.Kids.length - (intOf c).toNat)
  case atStart => exact ⟨0, [], Nat.zero_le _, rfl, by simp, own_new _ _ (by simp), by simp, (Below.refl _ _).alloc (by simp) _⟩
  case round =>
    obtain ⟨k, fs, hk2, rfl, hfs, hown, hsz, hbx⟩ := hrel
    have HO := hide hown; have HX := hide hbx; have HFs := hide hfs
    have HB : Hid (Below w.heap.size w wr) := (bA (Below.refl _ _) _).trans (hbx.mono (Nat.le_succ _))
    have b0 : wr.cell? ⟨w.heap.size, 0, none⟩ = some (.int .i64 12) := (hbx.cell (p := ⟨w.heap.size, 0, none⟩) (Nat.lt_succ_self _)).trans (by simp [go_sem])
    have b1 : wr.cell? ⟨w.heap.size, 1, none⟩ = some (.int .i64 2) := (hbx.cell (p := ⟨w.heap.size, 1, none⟩) (Nat.lt_succ_self _)).trans (by simp [go_sem])
    have b2 : wr.cell? ⟨w.heap.size, 2, none⟩ = some (.int .i64 n.M) := (hbx.cell (p := ⟨w.heap.size, 2, none⟩) (Nat.lt_succ_self _)).trans (by simp [go_sem])
    have b3 : wr.cell? ⟨w.heap.size, 3, none⟩ = some (.string n.S) := (hbx.cell (p := ⟨w.heap.size, 3, none⟩) (Nat.lt_succ_self _)).trans (by simp [go_sem])
    have b4 : wr.cell? ⟨w.heap.size, 4, none⟩ = some (.string n.T) := (hbx.cell (p := ⟨w.heap.size, 4, none⟩) (Nat.lt_succ_self _)).trans (by simp [go_sem])
    have b5 : wr.cell? ⟨w.heap.size, 5, none⟩ = some (.slice (some ⟨kg, 0, none⟩) n.Kids.length n.Kids.length) := (hbx.cell (p := ⟨w.heap.size, 5, none⟩) (Nat.lt_succ_self _)).trans (by simp [go_sem])
    clear hown hbx hfs
    have s3 : w.heap.size < wr.heap.size := by omega
    by_cases hlt : k < n.Kids.length
    · have j1 : (k : Int) < (n.Kids.length : Int) := by omega
      obtain ⟨x, hx⟩ : ∃ x, n.Kids[k]? = some x := ⟨n.Kids[k], List.getElem?_eq_getElem hlt⟩
      have hxm : x ∈ n.Kids := List.mem_of_getElem? hx
      obtain ⟨p, rfl⟩ : ∃ p : Nat, x = (p : Int) := ⟨x.toNat, by have := (unhide Hhk x hxm).1; omega⟩
      have c1 : wr.cell? ⟨kg, k, none⟩ = some (.int .i64 (p : Int)) := by
        have := unhide HKs k _ hx
        rw [Nat.zero_add] at this
        exact ((bcell (unhide HB)).1 kg k hkg).trans this
      have s1 : kg < wr.heap.size := by omega
      have HCx := hide (unhide HHC wr (unhide HB) _ hxm)
      have HTk : Hid ((n.Kids.take (k + 1)).map T = (n.Kids.take k).map T ++ [T (p : Int)]) := by
        show _ = _
        rw [List.take_add_one, hx, List.map_append]
        rfl
      have hfl : fs.length ≤ 10000 := by rw [unhide HFs]; simp; omega
      clear hx hxm
      generalize T (p : Int) = t at *
      go_wp2_with fail
      refine (unhide HCx).mono ?_
      rintro e w1 ⟨rfl, hb1⟩
      have HO1 := hide (bA_own t (ownB (unhide HO) hb1))
      have HX1 : Hid (Below (w.heap.size + 1) (w.alloc (.cells #[.int .i64 12, .int .i64 2, .int .i64 n.M, .string n.S, .string n.T, .slice (some ⟨kg, 0, none⟩) n.Kids.length n.Kids.length] 54)) w1) := (unhide HX).trans (hb1.mono hsz)
      have s31 : w.heap.size < w1.heap.size := Nat.lt_of_lt_of_le s3 hb1.size
      clear hb1 HCx
      go_wp2_with (at_builtin; refine wpList_append_lies _ rfl (.tmp 68) (.tmp 76) 37 rfl (w.heap.size + 1) 9 ti _ 1 16 Tryz.underlying37 hti hz0 hz1 hz2 rfl (by decide) _ fs.length (strs fs) rfl (unhide HO1).1 ⟨w1.heap.size, 0, none⟩ 1 1 (strs [t]) rfl rfl (unhide HO1).2 (strs_one [t]) (by decide) (by unfold maxLen; omega) (by omega) (by simp; omega) _ rfl ?_; intro g2 c2 w2 hown2 hgrow hat hlt2; have HBg := hide (own_grown (unhide HO1).1 hgrow (by simp; omega)))
      go_roundw
      case rel =>
        refine ⟨k + 1, fs ++ [t], by omega, by go_num, by rw [unhide HTk, unhide HFs], by rw [List.length_append, strs_app]; exact hown2, ?_, (((unhide HX1).alloc (by omega) _).trans (unhide HBg))⟩
        have := (unhide HBg).size
        simp at this
        omega
      case measure => simp [intOf]; omega
    · obtain rfl : k = n.Kids.length := by omega
      have hfs : fs = n.Kids.map T := by rw [unhide HFs, List.take_length]
      have hfa : fs = [T a, T b] := by rw [hfs, unhide Hhab]; rfl
      have hTa := unhide HhT a (by rw [unhide Hhab]; simp)
      have hTb := unhide HhT b (by rw [unhide Hhab]; simp)
      clear hfs HFs
      subst hfa
      obtain ⟨g3, cap3, rfl, hg3, _, hc3⟩ := own_cells (unhide HO) (by simp)
      have e0 := hc3 0 (T a) rfl
      have e1 := hc3 1 (T b) rfl
      clear hc3
      have hcl := comp_len n.M
      obtain ⟨r1, h1⟩ : ∃ r, (T a) ++ ([32] : List UInt8) = r := ⟨_, rfl⟩
      have l1 : r1.length ≤ 200000000 := by rw [← h1]; first | (simp; done) | (simp; omega)
      have A1 : ∀ w, (Op.stringOp .add (mkS (T a)) ⟨#[32]⟩).run Tryz.prog w = .ok (.string (mkS r1)) w := fun w => by rw [← h1]; exact cat_is Tryz.prog w (T a) ([32] : List UInt8) (by first | omega | (simp; done) | (simp; omega))
      obtain ⟨r2, h2⟩ : ∃ r, r1 ++ (comp n.M) = r := ⟨_, rfl⟩
      have l2 : r2.length ≤ 400000000 := by rw [← h2]; first | (simp; done) | (simp; omega)
      have A2 : ∀ w, (Op.stringOp .add (mkS r1) (mkS (comp n.M))).run Tryz.prog w = .ok (.string (mkS r2)) w := fun w => by rw [← h2]; exact cat_is Tryz.prog w r1 (comp n.M) (by first | omega | (simp; done) | (simp; omega))
      obtain ⟨r3, h3⟩ : ∃ r, r2 ++ ([32, 65, 76, 76] : List UInt8) = r := ⟨_, rfl⟩
      have l3 : r3.length ≤ 600000000 := by rw [← h3]; first | (simp; done) | (simp; omega)
      have A3 : ∀ w, (Op.stringOp .add (mkS r2) ⟨#[32, 65, 76, 76]⟩).run Tryz.prog w = .ok (.string (mkS r3)) w := fun w => by rw [← h3]; exact cat_is Tryz.prog w r2 ([32, 65, 76, 76] : List UInt8) (by first | omega | (simp; done) | (simp; omega))
      obtain ⟨r4, h4⟩ : ∃ r, r3 ++ ([32, 40, 32] : List UInt8) = r := ⟨_, rfl⟩
      have l4 : r4.length ≤ 800000000 := by rw [← h4]; first | (simp; done) | (simp; omega)
      have A4 : ∀ w, (Op.stringOp .add (mkS r3) ⟨#[32, 40, 32]⟩).run Tryz.prog w = .ok (.string (mkS r4)) w := fun w => by rw [← h4]; exact cat_is Tryz.prog w r3 ([32, 40, 32] : List UInt8) (by first | omega | (simp; done) | (simp; omega))
      obtain ⟨r5, h5⟩ : ∃ r, r4 ++ (T b) = r := ⟨_, rfl⟩
      have l5 : r5.length ≤ 1000000000 := by rw [← h5]; first | (simp; done) | (simp; omega)
      have A5 : ∀ w, (Op.stringOp .add (mkS r4) (mkS (T b))).run Tryz.prog w = .ok (.string (mkS r5)) w := fun w => by rw [← h5]; exact cat_is Tryz.prog w r4 (T b) (by first | omega | (simp; done) | (simp; omega))
      obtain ⟨r6, h6⟩ : ∃ r, r5 ++ ([32, 41] : List UInt8) = r := ⟨_, rfl⟩
      have l6 : r6.length ≤ 1200000000 := by rw [← h6]; first | (simp; done) | (simp; omega)
      have A6 : ∀ w, (Op.stringOp .add (mkS r5) ⟨#[32, 41]⟩).run Tryz.prog w = .ok (.string (mkS r6)) w := fun w => by rw [← h6]; exact cat_is Tryz.prog w r5 ([32, 41] : List UInt8) (by first | omega | (simp; done) | (simp; omega))
      have HZ : Hid (T a ++ [32] ++ comp n.M ++ [32, 65, 76, 76] ++ [32, 40, 32] ++ T b ++ [32, 41] = r6) := by
        show _ = _
        rw [← h6, ← h5, ← h4, ← h3, ← h2, ← h1]
      clear h1 l1 h2 l2 h3 l3 h4 l4 h5 l5 h6 l6
      clear hcl
      generalize T a = ta at *
      generalize T b = tb at *
      go_upto_region 48 with fail
      refine wp_region_held_drew (S := fun x => x.cell? ⟨g3, 0, none⟩ = some (.string (mkS ta)) ∧ x.cell? ⟨g3, 1, none⟩ = some (.string (mkS tb)) ∧ x.cell? ⟨w.heap.size, 2, none⟩ = some (.int .i64 n.M)) (by kernel_rfl) (by refine ⟨?_, ?_⟩ <;> simp [go_sem, *]) (fun hHeld => ?_)
      refine tW 0 209 (.slice (some ⟨g3, 0, none⟩) 2 cap3) ?_
      simp only [puts]
      refine tW 1 210 (.pointer (some ⟨g3, 0, none⟩)) ?_
      simp only [puts]
      refine tW 2 211 (.string (mkS ta)) ?_
      simp only [puts]
      refine tW 3 212 (.string (mkS r1)) ?_
      simp only [puts]
      refine tW 4 213 (.pointer (some ⟨w.heap.size, 2, none⟩)) ?_
      simp only [puts]
      refine tW 5 214 (.int .i64 n.M) ?_
      simp only [puts]
      refine tW 8 217 (.string ⟨#[32, 65, 76, 76]⟩) ?_
      simp only [puts]
      refine tW 11 220 (.slice (some ⟨g3, 0, none⟩) 2 cap3) ?_
      simp only [puts]
      refine tW 12 221 (.pointer (some ⟨g3, 1, none⟩)) ?_
      simp only [puts]
      refine tW 13 222 (.string (mkS tb)) ?_
      simp only [puts]
      refine wpAnyH_ready (rs := [6]) (by kernel_rfl) (by simp) ?_
      refine AllReadyH.cons rfl (fun Kx hK => ?_) AllReadyH.nil
      go_simp
      refine (l2CompText_calls n.M hM1 hM2 _).mono ?_
      rintro e w1 ⟨rfl, rfl⟩
      refine hK.out _ _ hHeld (fun hHeld2 => ?_)
      clear hK Kx
      refine tW 7 216 (.string (mkS r2)) ?_
      simp only [puts]
      refine tW 9 218 (.string (mkS r3)) ?_
      simp only [puts]
      refine tW 10 219 (.string (mkS r4)) ?_
      simp only [puts]
      refine tW 14 223 (.string (mkS r5)) ?_
      simp only [puts]
      refine tW 15 224 (.string (mkS r6)) ?_
      simp only [puts]
      refine tW 16 4 (.string (mkS r6)) ?_
      simp only [puts]
      refine wpAnyH_done (by kernel_rfl) ?_ _
      go_wp2
      go_returns
      refine ⟨?_, (unhide HB).drew⟩
      rw [← unhide HZ0, unhide HZ]
      rfl
end Go.Proofs.YtmcbmmpjhijagaaGreatDoor
