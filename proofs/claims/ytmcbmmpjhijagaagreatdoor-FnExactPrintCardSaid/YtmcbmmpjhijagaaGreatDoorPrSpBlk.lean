import Derived.Test.YtmcbmmpjhijagaaGreatDoorQ9
namespace Go.Proofs.YtmcbmmpjhijagaaGreatDoor
open Go Go.RowKit
def btS (kd : Int → Int) (T : Int → List UInt8) (s : List (List UInt8) × List UInt8) (x : Int) : List (List UInt8) × List UInt8 := if kd x = 5 then (s.1 ++ [T x], s.2) else (s.1, [32, 87, 72, 69, 82, 69, 32] ++ T x)
def bt (kd : Int → Int) (T : Int → List UInt8) (r : List Int) : List (List UInt8) × List UInt8 := r.foldl (btS kd T) ([], [])
theorem bt_snoc (kd : Int → Int) (T : Int → List UInt8) (r : List Int) (x : Int) : bt kd T (r ++ [x]) = btS kd T (bt kd T r) x := by simp [bt]
theorem bt_len' (kd : Int → Int) (T : Int → List UInt8) : ∀ (r : List Int) (s : List (List UInt8) × List UInt8), (r.foldl (btS kd T) s).1.length ≤ s.1.length + r.length
  | [], s => by simp
  | x :: r, s => by
    have := bt_len' kd T r (btS kd T s x)
    rw [List.foldl_cons]
    have h2 : (btS kd T s x).1.length ≤ s.1.length + 1 := by unfold btS; split <;> simp
    simp at this ⊢
    omega
theorem bt_len (kd : Int → Int) (T : Int → List UInt8) (r : List Int) : (bt kd T r).1.length ≤ r.length := by
  have := bt_len' kd T r ([], [])
  simpa [bt] using this
theorem bt_wh' (kd : Int → Int) (T : Int → List UInt8) (L : Nat) : ∀ (r : List Int) (s : List (List UInt8) × List UInt8), (∀ x ∈ r, (T x).length ≤ L) → s.2.length ≤ L + 7 → (r.foldl (btS kd T) s).2.length ≤ L + 7
  | [], s, _, h => by simpa using h
  | x :: r, s, h, hs => by
    rw [List.foldl_cons]
    refine bt_wh' kd T L r _ (fun y hy => h y (by simp [hy])) ?_
    unfold btS
    split
    · exact hs
    · have := h x (by simp)
      simp; omega
theorem bt_wh (kd : Int → Int) (T : Int → List UInt8) (L : Nat) (r : List Int) (h : ∀ x ∈ r, (T x).length ≤ L) : (bt kd T r).2.length ≤ L + 7 := bt_wh' kd T L r _ h (by simp)
theorem bt_sum' (kd : Int → Int) (T : Int → List UInt8) : ∀ (r : List Int) (s : List (List UInt8) × List UInt8), (((r.foldl (btS kd T) s).1).map fun t => t.length + 3).sum ≤ (s.1.map fun t => t.length + 3).sum + (r.map fun x => (T x).length + 3).sum
  | [], s => by simp
  | x :: r, s => by
    have := bt_sum' kd T r (btS kd T s x)
    rw [List.foldl_cons]
    have h2 : ((btS kd T s x).1.map fun t => t.length + 3).sum ≤ (s.1.map fun t => t.length + 3).sum + ((T x).length + 3) := by
      unfold btS
      split
      · simp only [List.map_append, List.sum_append, List.map_cons, List.map_nil, List.sum_cons, List.sum_nil]; omega
      · simp only []; omega
    simp only [List.map_cons, List.sum_cons]
    omega
theorem bt_sum (kd : Int → Int) (T : Int → List UInt8) (r : List Int) : (((bt kd T r).1).map fun t => t.length + 3).sum ≤ (r.map fun x => (T x).length + 3).sum := by
  have := bt_sum' kd T r ([], [])
  simpa [bt] using this
theorem sum_drop_le (f : Int → Nat) : ∀ (r : List Int) (k : Nat), ((r.drop k).map f).sum ≤ (r.map f).sum
  | [], k => by simp
  | x :: r, 0 => by simp
  | x :: r, k + 1 => by
    have := sum_drop_le f r k
    simp only [List.drop_succ_cons, List.map_cons, List.sum_cons]
    omega
theorem own_new (w : World) (b : Nat) (hb : w.heap.size = b) : (w.alloc (.cells #[] 9)).ownsRow b 9 1 (.slice (some ⟨b, 0, none⟩) 0 0) 0 [] := by
  subst hb
  exact ⟨rfl, Or.inr ⟨w.heap.size, 0, #[], rfl, Nat.le_refl _, (MapKept.heap_alloc w _).1, Nat.le_refl _, Nat.zero_le _, rfl, rfl⟩⟩
theorem bA_own {w : World} {B : Nat} {v : Value} {n : Nat} {xs : List Value} (t : List UInt8) (h : w.ownsRow B 9 1 v n xs) : (w.alloc (.cells #[.string (mkS t)] 9)).ownsRow B 9 1 v n xs ∧ ∀ (j : Nat) u, (strs [t])[j]? = some u → (w.alloc (.cells #[.string (mkS t)] 9)).cell? ((⟨w.heap.size, 0, none⟩ : Addr).add j) = some u := by
  refine ⟨ownB h (bA (Below.refl _ _) _), add_cells (fun j u hj => ?_)⟩
  rw [World.cell?_alloc_at _ _ _ (0 + j) rfl]
  match j, hj with
  | 0, hj => simpa [strs] using hj
set_option maxRecDepth 100000 in
set_option maxHeartbeats 4000000 in
theorem l2BlockText_calls (ns : List Nd) (g cap i : Nat) (n : Nd) (w : World) (hg : g < w.heap.size) (hn : NodesAt w g 0 ns) (hni : ns[i]? = some n) (hN : 0 ≤ n.N) (hNm : n.N ≤ n.Kids.length) (hm : n.Kids.length ≤ 10000) (hk : ∀ x ∈ n.Kids, 0 ≤ x ∧ x < (ns.length : Int))
    (T : Int → List UInt8) (hT : ∀ x ∈ n.Kids, (T x).length ≤ 5000000) (hsum : (n.Kids.map fun x => (T x).length + 3).sum ≤ 100000000) (hne : 0 < (bt (fun x => kindAt ns x.toNat) T (n.Kids.drop n.N.toNat)).1.length)
    (HC : ∀ W, Below w.heap.size w W → ∀ x ∈ n.Kids, Calls Tryz.prog 11 #[.slice (some ⟨g, 0, none⟩) ns.length cap, .int .i64 x] W fun e w' => e = .returned (.string (mkS (T x))) ∧ Below W.heap.size W w') :
    Calls Tryz.prog 26 #[.slice (some ⟨g, 0, none⟩) ns.length cap, .int .i64 (i : Int)] w fun e w' => e = .returned (.string (mkS ([70, 82, 79, 77, 32] ++ Lib.join (bt (fun x => kindAt ns x.toNat) T (n.Kids.drop n.N.toNat)).1 [32, 44, 32] ++ (bt (fun x => kindAt ns x.toNat) T (n.Kids.drop n.N.toNat)).2))) ∧ Below w.heap.size w w' := by
  obtain ⟨ti, hti, hz⟩ := Option.map_eq_some_iff.1 (show (Tryz.prog.info? 9).map (fun i => (i.zero, i.size, i.bytes)) = some (some (.string ByteArray.empty), 1, 16) by kernel_rfl)
  simp only [Prod.mk.injEq] at hz
  obtain ⟨hz0, hz1, hz2⟩ := hz
  have hi : i < ns.length := (List.getElem?_eq_some_iff.1 hni).1
  obtain ⟨⟨x0, x1, x2, x3, x4⟩, kg, x5, _, hkg, hks⟩ := hn i n hni
  simp only [Nat.zero_add] at x0 x1 x2 x3 x4 x5
  obtain ⟨N, hNn⟩ : ∃ N : Nat, n.N = (N : Int) := ⟨n.N.toNat, by omega⟩
  rw [hNn] at hN hNm hne ⊢
  rw [hNn] at x1
  simp only [Int.toNat_natCast] at hne ⊢
  have HNE := hide hne
  clear hne
  have j0 : (i : Int) < (ns.length : Int) := by omega
  have H := hide HC; have HN := hide hn; have HKs := hide hks; have HK := hide hk; have HTl := hide hT; have HSum := hide hsum
  clear HC hn hks hk hT hsum hni hNn hN
  obtain ⟨Z, hZ⟩ : ∃ Z, [70, 82, 79, 77, 32] ++ Lib.join (bt (fun x => kindAt ns x.toNat) T (n.Kids.drop N)).1 [32, 44, 32] ++ (bt (fun x => kindAt ns x.toNat) T (n.Kids.drop N)).2 = Z := ⟨_, rfl⟩
  rw [hZ]
  have HZ0 := hide hZ
  clear hZ
  go_enter Tryz.func26, Tryz.ntmps26
  go_wp2
  go_loopw [6, 7, 8] (fun v wh c wr => ∃ (k : Nat) (fs : List (List UInt8)) (wt : List UInt8), N ≤ k ∧ k ≤ n.Kids.length ∧ c = .int .i64 k ∧ wh = .string (mkS wt) ∧ (fs, wt) = bt (fun x => kindAt ns x.toNat) T ((n.Kids.drop N).take (k - N)) ∧ wr.ownsRow (w.heap.size + 1) 9 1 v fs.length (strs fs) ∧ w.heap.size + 1 ≤ wr.heap.size ∧ Below w.heap.size w wr ∧ wr.cell? ⟨w.heap.size, 5, none⟩ = some (.slice (some ⟨kg, 0, none⟩) n.Kids.length n.Kids.length)) (fun _ _ c _ => n.Kids.length - (intOf c).toNat)
  case atStart =>
    refine ⟨N, [], [], Nat.le_refl _, by omega, rfl, rfl, by simp [bt], own_new _ _ (by simp), by simp, bA (bA (Below.refl _ _) _) _, by simp [go_sem]⟩
  case round =>
    obtain ⟨k, fs, wt, hk1, hk2, rfl, rfl, hbt, hown, hsz, hb, b5⟩ := hrel
    have HBt := hide hbt; have HO := hide hown; have HB := hide hb
    clear hbt hown hb
    by_cases hlt : k < n.Kids.length
    · have j1 : (k : Int) < (n.Kids.length : Int) := by omega
      obtain ⟨x, hx⟩ : ∃ x, n.Kids[k]? = some x := ⟨n.Kids[k], List.getElem?_eq_getElem hlt⟩
      have hxm : x ∈ n.Kids := List.mem_of_getElem? hx
      obtain ⟨p, rfl⟩ : ∃ p : Nat, x = (p : Int) := ⟨x.toNat, by have := (unhide HK x hxm).1; omega⟩
      have hp : p < ns.length := by have := (unhide HK _ hxm).2; omega
      have hpn : ns[p]? = some ns[p] := List.getElem?_eq_getElem hp
      obtain ⟨⟨y0, _, _, _, _⟩, _⟩ := (unhide HN) p _ hpn
      simp only [Nat.zero_add] at y0
      have hkd := kindAt_some hpn
      rw [← hkd] at y0
      have c1 : wr.cell? ⟨kg, k, none⟩ = some (.int .i64 (p : Int)) := by
        have := unhide HKs k _ hx
        rw [Nat.zero_add] at this
        exact ((bcell (unhide HB)).1 kg k hkg).trans this
      have c2 : wr.cell? ⟨g, p * 6, none⟩ = some (.int .i64 (kindAt ns p)) := ((bcell (unhide HB)).1 g _ hg).trans y0
      have s1 : kg < wr.heap.size := by omega
      have s2 : g < wr.heap.size := by omega
      have s3 : w.heap.size < wr.heap.size := by omega
      have j2 : (p : Int) < (ns.length : Int) := by omega
      have HTx := hide (unhide HTl _ hxm)
      have HCx := hide (unhide H wr (unhide HB) _ hxm)
      have htk : (n.Kids.drop N).take (k + 1 - N) = (n.Kids.drop N).take (k - N) ++ [(p : Int)] := by
        rw [show k + 1 - N = (k - N) + 1 by omega, List.take_add_one, List.getElem?_drop, show N + (k - N) = k by omega, hx]
        rfl
      have hfl : fs.length ≤ 10000 := by
        have h1 := bt_len (fun x => kindAt ns x.toNat) T ((n.Kids.drop N).take (k - N))
        rw [← unhide HBt] at h1
        simp at h1
        omega
      obtain ⟨kd, hkk⟩ : ∃ kd, kindAt ns p = kd := ⟨_, rfl⟩
      have HS : Hid (bt (fun x => kindAt ns x.toNat) T ((n.Kids.drop N).take (k + 1 - N)) = if kd = 5 then (fs ++ [T (p : Int)], wt) else (fs, [32, 87, 72, 69, 82, 69, 32] ++ T (p : Int))) := by
        show _ = _
        rw [htk, bt_snoc, ← unhide HBt]
        unfold btS
        simp only [Int.toNat_natCast, hkk]
      rw [hkk] at c2
      clear hx hxm hpn y0 hkd htk hkk
      generalize T (p : Int) = t at *
      by_cases h5 : kd = 5
      · subst h5
        have HS2 : Hid (bt (fun x => kindAt ns x.toNat) T ((n.Kids.drop N).take (k + 1 - N)) = (fs ++ [t], wt)) := unhide HS
        clear HS
        go_wp2_with fail
        refine (unhide HCx).mono ?_
        rintro e w1 ⟨rfl, hb1⟩
        have HO1 := hide (bA_own t (ownB (unhide HO) hb1))
        have HB1 : Hid (Below w.heap.size w w1) := bT (unhide HB) hb1
        have b51 := ((bcell hb1).1 w.heap.size 5 s3).trans b5
        have s31 : w.heap.size < w1.heap.size := Nat.lt_of_lt_of_le s3 hb1.size
        clear hb1 HCx
        go_wp2_with (at_builtin; refine wpList_append_lies _ rfl (.tmp 33) (.tmp 41) 37 rfl (w.heap.size + 1) 9 ti _ 1 16 Tryz.underlying37 hti hz0 hz1 hz2 rfl (by decide) _ fs.length (strs fs) rfl (unhide HO1).1 ⟨w1.heap.size, 0, none⟩ 1 1 (strs [t]) rfl rfl (unhide HO1).2 (strs_one [t]) (by decide) (by unfold maxLen; omega) (by omega) (by simp; omega) _ rfl ?_; intro g2 c2 w2 hown2 hgrow hat hlt2; have HBg := hide (own_grown (unhide HO1).1 hgrow (by simp; omega)))
        go_roundw
        case rel =>
          refine ⟨k + 1, fs ++ [t], wt, by omega, by omega, by go_num, rfl, (unhide HS2).symm, by rw [List.length_append, strs_app]; exact hown2, ?_, (bA (unhide HB1) _).trans ((unhide HBg).mono (by omega)), ?_⟩
          · have := (unhide HBg).size
            simp at this
            omega
          · refine ((unhide HBg).cell (p := ⟨w.heap.size, 5, none⟩) (by simp)).trans ?_
            rw [World.cell?_alloc_some _ _ _ (by rw [b51]; rfl)]
            exact b51
        case measure => simp [intOf]; omega
      · have HS2 : Hid (bt (fun x => kindAt ns x.toNat) T ((n.Kids.drop N).take (k + 1 - N)) = (fs, [32, 87, 72, 69, 82, 69, 32] ++ t)) := by
          have := unhide HS
          rw [if_neg h5] at this
          exact this
        clear HS
        have A1 : ∀ w, (Op.stringOp .add ⟨#[32, 87, 72, 69, 82, 69, 32]⟩ (mkS t)).run Tryz.prog w = .ok (.string (mkS ([32, 87, 72, 69, 82, 69, 32] ++ t))) w := fun w => cat_is Tryz.prog w [32, 87, 72, 69, 82, 69, 32] t (by have := unhide HTx; simp; omega)
        have h5' : (kd == 5) = false := by simp [h5]
        generalize [32, 87, 72, 69, 82, 69, 32] ++ t = t2 at *
        go_wp2_with fail
        refine (unhide HCx).mono ?_
        rintro e w1 ⟨rfl, hb1⟩
        have HO1 := hide (ownB (unhide HO) hb1)
        have HB1 : Hid (Below w.heap.size w w1) := bT (unhide HB) hb1
        have b51 := ((bcell hb1).1 w.heap.size 5 s3).trans b5
        have s31 : w.heap.size < w1.heap.size := Nat.lt_of_lt_of_le s3 hb1.size
        clear hb1 HCx
        go_wp2
        go_roundw
        case rel => exact ⟨k + 1, fs, t2, by omega, by omega, by go_num, rfl, (unhide HS2).symm, unhide HO1, by omega, unhide HB1, b51⟩
        case measure => simp [intOf]; omega
    · obtain rfl : k = n.Kids.length := by omega
      have hfin : bt (fun x => kindAt ns x.toNat) T (n.Kids.drop N) = (fs, wt) := by
        rw [unhide HBt, List.take_of_length_le (by simp)]
      have hwl : wt.length ≤ 5000007 := by
        have := bt_wh (fun x => kindAt ns x.toNat) T 5000000 (n.Kids.drop N) (fun x hx => unhide HTl x (List.mem_of_mem_drop hx))
        rw [hfin] at this
        exact this
      have hpos : 0 < fs.length := by have := unhide HNE; rw [hfin] at this; exact this
      have hjl : (Lib.join fs [32, 44, 32]).length ≤ 100000000 ∧ (fs.map fun t => t.length + 3).sum ≤ 100000000 ∧ fs.length ≤ 10000 := by
        have h1 := bt_sum (fun x => kindAt ns x.toNat) T (n.Kids.drop N)
        have h2 := sum_drop_le (fun x => (T x).length + 3) n.Kids N
        have h3 := join_len [32, 44, 32] fs
        have h4 := bt_len (fun x => kindAt ns x.toNat) T (n.Kids.drop N)
        have h5 := unhide HSum
        rw [hfin] at h1 h4
        simp at h1 h2 h3 h4 h5 ⊢
        omega
      obtain ⟨hj1, hj2, hj3⟩ := hjl
      have HFin := hide hfin
      obtain ⟨g3, cap3, rfl, hg3, _, hc3⟩ := own_cells (unhide HO) hpos
      have HJ := hide (l2Join_calls fs [32, 44, 32] g3 cap3 wr hg3 hc3 (by omega) (by simpa using (show _ ≤ 1000000000 by omega)) (by simp))
      have A1 : ∀ w, (Op.stringOp .add ⟨#[70, 82, 79, 77, 32]⟩ (mkS (Lib.join fs [32, 44, 32]))).run Tryz.prog w = .ok (.string (mkS ([70, 82, 79, 77, 32] ++ Lib.join fs [32, 44, 32]))) w := fun w => cat_is Tryz.prog w [70, 82, 79, 77, 32] _ (by simp; omega)
      have A2 : ∀ w, (Op.stringOp .add (mkS ([70, 82, 79, 77, 32] ++ Lib.join fs [32, 44, 32])) (mkS wt)).run Tryz.prog w = .ok (.string (mkS ([70, 82, 79, 77, 32] ++ Lib.join fs [32, 44, 32] ++ wt))) w := fun w => cat_is Tryz.prog w _ wt (by simp; omega)
      obtain ⟨t1, h1⟩ : ∃ t1, Lib.join fs [32, 44, 32] = t1 := ⟨_, rfl⟩
      obtain ⟨t2, h2⟩ : ∃ t2, [70, 82, 79, 77, 32] ++ t1 = t2 := ⟨_, rfl⟩
      obtain ⟨t3, h3⟩ : ∃ t3, t2 ++ wt = t3 := ⟨_, rfl⟩
      rw [h1, h2] at A1 A2
      rw [h3] at A2
      rw [h1] at HJ
      have HZ : Hid ([70, 82, 79, 77, 32] ++ Lib.join (bt (fun x => kindAt ns x.toNat) T (n.Kids.drop N)).1 [32, 44, 32] ++ (bt (fun x => kindAt ns x.toNat) T (n.Kids.drop N)).2 = t3) := by
        show _ = _
        rw [hfin, ← h3, ← h2, ← h1]
      have s3 : w.heap.size < wr.heap.size := by omega
      clear hfin h1 h2 h3 hj1 hj2 hj3 hwl hc3
      go_wp2_with fail
      refine (unhide HJ).mono ?_
      rintro e w1 ⟨rfl, rfl⟩
      go_wp2
      go_returns
      refine ⟨?_, unhide HB⟩
      rw [← unhide HZ0, unhide HZ]
      rfl
end Go.Proofs.YtmcbmmpjhijagaaGreatDoor
