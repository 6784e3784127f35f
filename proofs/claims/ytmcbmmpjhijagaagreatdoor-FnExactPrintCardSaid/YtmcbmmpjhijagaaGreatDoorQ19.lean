import Derived.Test.YtmcbmmpjhijagaaGreatDoorQ2
import Derived.Test.YtmcbmmpjhijagaaGreatDoorPrSpBlk
import Derived.Test.YtmcbmmpjhijagaaGreatDoorPrWrite
import Derived.Test.YtmcbmmpjhijagaaGreatDoorQ8
namespace Go.Proofs.YtmcbmmpjhijagaaGreatDoor
open Go
def tj (ws : List (List UInt8)) : List UInt8 := Lib.join ws [32]
theorem tj_one (x : List UInt8) : tj [x] = x := Lib.join_one x [32]
theorem tj_app {a b : List (List UInt8)} (ha : a ≠ []) (hb : b ≠ []) : tj (a ++ b) = tj a ++ 32 :: tj b := by
  have := join_app a b ha hb
  simpa [tj] using this
theorem tj_cons (x : List UInt8) {b : List (List UInt8)} (hb : b ≠ []) : tj (x :: b) = x ++ 32 :: tj b := by
  have := tj_app (a := [x]) (by simp) hb
  rwa [tj_one] at this
theorem tj_len (ws : List (List UInt8)) : (tj ws).length ≤ wl ws := join_le ws
theorem tj_brk (b : Bool) {a : List (List UInt8)} (ha : a ≠ []) : tj (brk b a) = if b then [40, 32] ++ tj a ++ [32, 41] else tj a := by
  cases b
  · simp [brk]
  · simp [brk, tj_cons, tj_app, tj_one, ha]
theorem tj_iL {sep : List (List UInt8)} (hs : sep ≠ []) : ∀ (xss : List (List (List UInt8))), (∀ x ∈ xss, x ≠ []) → tj (iL sep xss) = Lib.join (xss.map tj) ([32] ++ tj sep ++ [32])
  | [], _ => by simp [iL, tj, Lib.join_nil]
  | [x], _ => by simp [iL, Lib.join_one]
  | x :: y :: r, h => by
    have ih := tj_iL hs (y :: r) (fun z hz => h z (by simp [hz]))
    have hx : x ≠ [] := h x (by simp)
    have hy : iL sep (y :: r) ≠ [] := by
      cases r with
      | nil => simpa [iL] using h y (by simp)
      | cons z r => simp [iL, hs]
    have e1 : tj (iL sep (x :: y :: r)) = tj x ++ 32 :: (tj sep ++ 32 :: tj (iL sep (y :: r))) := by
      show tj (x ++ sep ++ iL sep (y :: r)) = _
      rw [List.append_assoc, tj_app hx (by simp [hs]), tj_app hs hy]
    rw [e1, ih]
    simp only [List.map_cons, Lib.join_cons]
    unfold Lib.joinTail
    simp [List.append_assoc]
theorem m8 {a b : List (List UInt8)} (ha : a ≠ []) (hb : b ≠ []) (c : List UInt8) : tj (a ++ [c] ++ b) = Lib.join [tj a, tj b] ([32] ++ c ++ [32]) := by
  rw [List.append_assoc, tj_app ha (by simp), List.singleton_append, tj_cons c hb, Lib.join_cons]
  unfold Lib.joinTail
  simp
theorem m9 {a : List (List UInt8)} (ha : a ≠ []) (M : Int) : tj (a ++ [kIS] ++ notW M ++ [kNULL]) = tj a ++ [32, 73, 83, 32] ++ (if M = 1 then [78, 79, 84, 32] else []) ++ [78, 85, 76, 76] := by
  unfold notW
  by_cases h : M = 1
  · simp [h, tj_app, tj_cons, tj_one, ha]
  · simp [h, tj_app, tj_cons, tj_one, ha]
theorem m10 {a : List (List UInt8)} (ha : a ≠ []) : tj ([kEXISTS, kOpen] ++ a ++ [kShut]) = [69, 88, 73, 83, 84, 83, 32, 40, 32] ++ tj a ++ [32, 41] := by
  simp [tj_app, tj_cons, tj_one, ha]
theorem m11 {a b : List (List UInt8)} (ha : a ≠ []) (hb : b ≠ []) (M : Int) : tj (a ++ notW M ++ [kIN, kOpen] ++ b ++ [kShut]) = tj a ++ [32] ++ (if M = 1 then [78, 79, 84, 32] else []) ++ [73, 78, 32, 40, 32] ++ tj b ++ [32, 41] := by
  unfold notW
  by_cases h : M = 1
  · simp [h, tj_app, tj_cons, tj_one, ha, hb]
  · simp [h, tj_app, tj_cons, tj_one, ha, hb]
theorem m12 {a b : List (List UInt8)} (ha : a ≠ []) (hb : b ≠ []) (c x : List UInt8) : tj (a ++ [c, x, kOpen] ++ b ++ [kShut]) = tj a ++ [32] ++ c ++ (32 :: x) ++ [32, 40, 32] ++ tj b ++ [32, 41] := by
  simp [tj_app, tj_cons, tj_one, ha, hb]
theorem m13 {a : List (List UInt8)} (ha : a ≠ []) : tj ([kNOT] ++ a) = [78, 79, 84, 32] ++ tj a := by
  simp [tj_cons, ha]
theorem m6 {x t : List (List UInt8)} (hx : x ≠ []) (ht : t ≠ []) (M : Int) : tj ([kSELECT] ++ (if M = 1 then [kDISTINCT] else []) ++ x ++ t) = (if M = 1 then [83, 69, 76, 69, 67, 84, 32, 68, 73, 83, 84, 73, 78, 67, 84, 32] else [83, 69, 76, 69, 67, 84, 32]) ++ tj x ++ [32] ++ tj t := by
  by_cases h : M = 1
  · simp [h, tj_app, tj_cons, hx, ht]
  · simp [h, tj_app, tj_cons, hx, ht]
theorem m4 {x t : List (List UInt8)} (hx : x ≠ []) (ht : t ≠ []) (c : List UInt8) : tj ([kOpen, kSELECT, c, kOpen] ++ x ++ [kShut] ++ t ++ [kShut]) = [40, 32, 83, 69, 76, 69, 67, 84, 32] ++ (c ++ [32, 40, 32]) ++ tj x ++ [32, 41, 32] ++ tj t ++ [32, 41] := by
  simp [tj_app, tj_cons, tj_one, hx, ht]
theorem bt_all (kd : Int → Int) (T : Int → List UInt8) (r : List Int) (h : ∀ x ∈ r, kd x = 5) (s : List (List UInt8) × List UInt8) : r.foldl (btS kd T) s = (s.1 ++ r.map T, s.2) := by
  induction r generalizing s with
  | nil => simp
  | cons x r ih =>
    rw [List.foldl_cons, ih (fun y hy => h y (by simp [hy]))]
    unfold btS
    rw [if_pos (h x (by simp))]
    simp
theorem tail_tx {ns : List Nd} {kk : List Int} {N : Int} {r : List Int} (hB : BlkI kk N) (hr : kk.drop N.toNat = r.map fun x => kindAt ns x.toNat) (W : Int → List (List UInt8)) (hW : ∀ x ∈ r, W x ≠ []) :
    tj (tailW (r.map fun x => (kindAt ns x.toNat, W x))) = [70, 82, 79, 77, 32] ++ Lib.join (bt (fun x => kindAt ns x.toNat) (fun x => tj (W x)) r).1 [32, 44, 32] ++ (bt (fun x => kindAt ns x.toNat) (fun x => tj (W x)) r).2 ∧ 0 < (bt (fun x => kindAt ns x.toNat) (fun x => tj (W x)) r).1.length := by
  obtain ⟨_, _, b3, b4⟩ := hB
  rw [hr] at b3 b4
  have hsep : ([32] ++ tj [kComma] ++ [32] : List UInt8) = [32, 44, 32] := by simp [tj_one]
  by_cases hc : ∃ s y, r = s ++ [y] ∧ cdB (kindAt ns y.toNat) = true
  · obtain ⟨s, y, rfl, hy⟩ := hc
    simp only [List.map_append, List.map_cons, List.map_nil] at b3 b4 ⊢
    unfold cutI at b3 b4
    simp only [List.getLast?_concat, Option.any_some, hy, if_true, List.dropLast_concat] at b3 b4
    have h5 : ∀ x ∈ s, kindAt ns x.toNat = 5 := fun x hx => by
      have := b3 _ (List.mem_map.2 ⟨x, hx, rfl⟩)
      simpa [fives] using this
    obtain ⟨e1, e2⟩ := wher_last (r := s.map fun x => (kindAt ns x.toNat, W x)) (fun x hx => by obtain ⟨z, hz, rfl⟩ := List.mem_map.1 hx; exact h5 z hz) (kindAt ns y.toNat, W y) (by
      unfold cdB at hy; simp at hy ⊢; omega)
    have hne5 : ¬ kindAt ns y.toNat = 5 := by unfold cdB at hy; simp at hy; omega
    have eb : bt (fun x => kindAt ns x.toNat) (fun x => tj (W x)) (s ++ [y]) = (s.map (fun x => tj (W x)), [32, 87, 72, 69, 82, 69, 32] ++ tj (W y)) := by
      rw [bt_snoc]
      unfold bt
      rw [bt_all _ _ s h5]
      unfold btS
      rw [if_neg hne5]
      simp
    rw [eb]
    unfold tailW
    rw [e1, e2, List.map_map]
    have hs0 : s ≠ [] := by intro e; rw [e] at b4; simp at b4
    have hxs : ∀ x ∈ s.map ((fun x => x.2) ∘ fun x => (kindAt ns x.toNat, W x)), x ≠ [] := fun x hx => by
      obtain ⟨z, hz, rfl⟩ := List.mem_map.1 hx
      exact hW z (by simp [hz])
    have hine : iL [kComma] (s.map ((fun x => x.2) ∘ fun x => (kindAt ns x.toNat, W x))) ≠ [] := by
      match s, hs0, hxs with
      | [x], _, hxs => simpa [iL] using hxs _ (by simp)
      | x :: y :: r, _, _ => simp [iL]
    refine ⟨?_, by simp; exact List.length_pos_iff.2 hs0⟩
    rw [List.append_assoc, List.singleton_append, tj_cons kFROM (by simp), tj_app hine (by simp), tj_iL (by simp) _ hxs, hsep, List.map_map, List.singleton_append, tj_cons kWHERE (hW y (by simp))]
    simp only [List.cons_append, List.nil_append]
    rfl
  · have hlast : (r.map fun x => kindAt ns x.toNat).getLast?.any cdB = false := by
      rw [List.getLast?_map]
      cases e : r.getLast? with
      | none => rfl
      | some y =>
        obtain ⟨s, rfl⟩ := List.getLast?_eq_some_iff.1 e
        cases e2 : cdB (kindAt ns y.toNat)
        · simp [e2]
        · exact absurd ⟨s, y, rfl, e2⟩ hc
    unfold cutI at b3 b4
    simp only [hlast, Bool.false_eq_true, if_false] at b3 b4
    have h5 : ∀ x ∈ r, kindAt ns x.toNat = 5 := fun x hx => by
      have := b3 _ (List.mem_map.2 ⟨x, hx, rfl⟩)
      simpa [fives] using this
    obtain ⟨e1, e2⟩ := wher_all (r := r.map fun x => (kindAt ns x.toNat, W x)) (fun x hx => by obtain ⟨z, hz, rfl⟩ := List.mem_map.1 hx; exact h5 z hz)
    have eb : bt (fun x => kindAt ns x.toNat) (fun x => tj (W x)) r = (r.map (fun x => tj (W x)), []) := by
      unfold bt
      rw [bt_all _ _ r h5]
      simp
    rw [eb]
    unfold tailW
    rw [e1, e2, List.map_map, List.append_nil]
    have hs0 : r ≠ [] := by intro e; rw [e] at b4; simp at b4
    have hxs : ∀ x ∈ r.map ((fun x => x.2) ∘ fun x => (kindAt ns x.toNat, W x)), x ≠ [] := fun x hx => by
      obtain ⟨z, hz, rfl⟩ := List.mem_map.1 hx
      exact hW z hz
    have hine : iL [kComma] (r.map ((fun x => x.2) ∘ fun x => (kindAt ns x.toNat, W x))) ≠ [] := by
      match r, hs0, hxs with
      | [x], _, hxs => simpa [iL] using hxs _ (by simp)
      | x :: y :: r, _, _ => simp [iL]
    refine ⟨?_, by simp; exact List.length_pos_iff.2 hs0⟩
    rw [List.singleton_append, tj_cons kFROM hine, tj_iL (by simp) _ hxs, hsep, List.map_map]
    simp only [List.cons_append, List.nil_append, List.append_nil]
    rfl
end Go.Proofs.YtmcbmmpjhijagaaGreatDoor
namespace Go.Proofs.YtmcbmmpjhijagaaGreatDoor
open Go Go.RowKit
set_option maxRecDepth 100000 in
set_option maxHeartbeats 8000000 in
theorem text_1 (ns : List Nd) (g cap i : Nat) (n : Nd) (w : World) (_ : g < w.heap.size) (hn : NodesAt w g 0 ns) (hni : ns[i]? = some n) (hK : n.K = 1) (h0 : n.Kids.length = 0) (hN0 : -9223372036854775808 < n.N) (hN1 : n.N ≤ 9223372036854775807) :
    Calls Tryz.prog 11 #[.slice (some ⟨g, 0, none⟩) ns.length cap, .int .i64 (i : Int)] w fun e w' => e = .returned (.string (mkS (Lib.itoa n.N))) ∧ Below w.heap.size w w' := by
  have hi : i < ns.length := (List.getElem?_eq_some_iff.1 hni).1
  obtain ⟨⟨x0, x1, x2, x3, x4⟩, kg, x5, _, hkg, hks⟩ := hn i n hni
  simp only [Nat.zero_add] at x0 x1 x2 x3 x4 x5
  rw [hK] at x0
  rw [h0] at x5
  have j0 : (i : Int) < (ns.length : Int) := by omega
  obtain ⟨Z, hZ⟩ : ∃ Z : List UInt8, Lib.itoa n.N = Z := ⟨_, rfl⟩
  rw [hZ]
  have HZ0 := hide hZ
  clear hZ
  have HN := hide hn
  have HKs := hide hks
  clear hn hks hni
  go_enter Tryz.func11, Tryz.ntmps11
  go_wp2
  go_loopw [7] (fun c wr => c = .int .i64 0 ∧ wr = (w.alloc (.cells #[.int .i64 1, .int .i64 n.N, .int .i64 n.M, .string n.S, .string n.T, .slice (some ⟨kg, 0, none⟩) 0 0] 54)).alloc (.cells #[] 9)) (fun _ _ => 0)
  case atStart => exact ⟨rfl, rfl⟩
  obtain ⟨rfl, rfl⟩ := hrel
  go_wp2_with fail
  refine (l2Dec_calls n.N hN0 hN1 _).mono ?_
  rintro e w1 ⟨rfl, hb⟩
  have HB : Hid (Below w.heap.size w w1) := bT (bA (bA (Below.refl _ _) _) _) hb
  clear hb
  go_wp2
  go_returns
  refine ⟨?_, unhide HB⟩
  rw [← unhide HZ0]
  rfl
set_option maxRecDepth 100000 in
set_option maxHeartbeats 8000000 in
theorem text_2 (ns : List Nd) (g cap i : Nat) (n : Nd) (w : World) (_ : g < w.heap.size) (hn : NodesAt w g 0 ns) (hni : ns[i]? = some n) (hK : n.K = 2) (h0 : n.Kids.length = 0) :
    Calls Tryz.prog 11 #[.slice (some ⟨g, 0, none⟩) ns.length cap, .int .i64 (i : Int)] w fun e w' => e = .returned (.string (mkS ([78, 85, 76, 76]))) ∧ Below w.heap.size w w' := by
  have hi : i < ns.length := (List.getElem?_eq_some_iff.1 hni).1
  obtain ⟨⟨x0, x1, x2, x3, x4⟩, kg, x5, _, hkg, hks⟩ := hn i n hni
  simp only [Nat.zero_add] at x0 x1 x2 x3 x4 x5
  rw [hK] at x0
  rw [h0] at x5
  have j0 : (i : Int) < (ns.length : Int) := by omega
  obtain ⟨Z, hZ⟩ : ∃ Z : List UInt8, [78, 85, 76, 76] = Z := ⟨_, rfl⟩
  rw [hZ]
  have HZ0 := hide hZ
  clear hZ
  have HN := hide hn
  have HKs := hide hks
  clear hn hks hni
  go_enter Tryz.func11, Tryz.ntmps11
  go_wp2
  go_loopw [7] (fun c wr => c = .int .i64 0 ∧ wr = (w.alloc (.cells #[.int .i64 2, .int .i64 n.N, .int .i64 n.M, .string n.S, .string n.T, .slice (some ⟨kg, 0, none⟩) 0 0] 54)).alloc (.cells #[] 9)) (fun _ _ => 0)
  case atStart => exact ⟨rfl, rfl⟩
  obtain ⟨rfl, rfl⟩ := hrel
  go_wp2
  go_returns
  refine ⟨?_, bA (bA (Below.refl _ _) _) _⟩
  rw [← unhide HZ0]
  rfl
set_option maxRecDepth 100000 in
set_option maxHeartbeats 8000000 in
theorem text_3 (ns : List Nd) (g cap i : Nat) (n : Nd) (w : World) (_ : g < w.heap.size) (hn : NodesAt w g 0 ns) (hni : ns[i]? = some n) (hK : n.K = 3) (h0 : n.Kids.length = 0) (hN0 : -9223372036854775808 < n.N) (hN1 : n.N ≤ 9223372036854775807) (hS : n.S.toList.length ≤ 64) :
    Calls Tryz.prog 11 #[.slice (some ⟨g, 0, none⟩) ns.length cap, .int .i64 (i : Int)] w fun e w' => e = .returned (.string (mkS (n.S.toList ++ [32, 46, 32] ++ Lib.itoa n.N))) ∧ Below w.heap.size w w' := by
  have hi : i < ns.length := (List.getElem?_eq_some_iff.1 hni).1
  obtain ⟨⟨x0, x1, x2, x3, x4⟩, kg, x5, _, hkg, hks⟩ := hn i n hni
  simp only [Nat.zero_add] at x0 x1 x2 x3 x4 x5
  rw [hK] at x0
  rw [h0] at x5
  have j0 : (i : Int) < (ns.length : Int) := by omega
  obtain ⟨Z, hZ⟩ : ∃ Z : List UInt8, n.S.toList ++ [32, 46, 32] ++ Lib.itoa n.N = Z := ⟨_, rfl⟩
  rw [hZ]
  have HZ0 := hide hZ
  clear hZ
  have HN := hide hn
  have HKs := hide hks
  clear hn hks hni
  have hil := itoa_len (n := n.N) (by omega) hN1
  obtain ⟨r1, h1⟩ : ∃ r, n.S.toList ++ ([32, 46, 32] : List UInt8) = r := ⟨_, rfl⟩
  have l1 : r1.length ≤ 200000000 := by rw [← h1]; first | (simp; done) | (simp; omega)
  have A1 : ∀ w, (Op.stringOp .add n.S ⟨#[32, 46, 32]⟩).run Tryz.prog w = .ok (.string (mkS r1)) w := fun w => by rw [← h1, eq_mkS n.S, mkS_toList]; exact cat_is Tryz.prog w n.S.toList ([32, 46, 32] : List UInt8) (by first | omega | (simp; done) | (simp; omega))
  obtain ⟨r2, h2⟩ : ∃ r, r1 ++ (Lib.itoa n.N) = r := ⟨_, rfl⟩
  have l2 : r2.length ≤ 400000000 := by rw [← h2]; first | (simp; done) | (simp; omega)
  have A2 : ∀ w, (Op.stringOp .add (mkS r1) (mkS (Lib.itoa n.N))).run Tryz.prog w = .ok (.string (mkS r2)) w := fun w => by rw [← h2]; exact cat_is Tryz.prog w r1 (Lib.itoa n.N) (by first | omega | (simp; done) | (simp; omega))
  have HZ : Hid (n.S.toList ++ [32, 46, 32] ++ Lib.itoa n.N = r2) := by
    show _ = _
    rw [← h2, ← h1]
  clear h1 l1 h2 l2
  go_enter Tryz.func11, Tryz.ntmps11
  go_wp2
  go_loopw [7] (fun c wr => c = .int .i64 0 ∧ wr = (w.alloc (.cells #[.int .i64 3, .int .i64 n.N, .int .i64 n.M, .string n.S, .string n.T, .slice (some ⟨kg, 0, none⟩) 0 0] 54)).alloc (.cells #[] 9)) (fun _ _ => 0)
  case atStart => exact ⟨rfl, rfl⟩
  obtain ⟨rfl, rfl⟩ := hrel
  go_upto_region 17 with fail
  refine wp_region_held_drew (S := fun x => x.cell? ⟨w.heap.size, 3, none⟩ = some (.string n.S) ∧ x.cell? ⟨w.heap.size, 1, none⟩ = some (.int .i64 n.N)) (by kernel_rfl) (by constructor <;> simp [go_sem]) (fun hHeld => ?_)
  refine tW 0 90 (.pointer (some ⟨w.heap.size, 3, none⟩)) ?_
  simp only [puts]
  refine tW 1 91 (.string n.S) ?_
  simp only [puts]
  refine tW 2 92 (.string (mkS r1)) ?_
  simp only [puts]
  refine tW 3 93 (.pointer (some ⟨w.heap.size, 1, none⟩)) ?_
  simp only [puts]
  refine tW 4 94 (.int .i64 n.N) ?_
  simp only [puts]
  refine wpAnyH_ready (rs := [5]) (by kernel_rfl) (by simp) ?_
  refine AllReadyH.cons rfl (fun Kx hK => ?_) AllReadyH.nil
  go_simp
  refine (l2Dec_calls n.N hN0 hN1 _).mono ?_
  rintro e w1 ⟨rfl, hb⟩
  have HB : Hid (Below w.heap.size w w1) := bT (Below.drew (bA (bA (Below.refl _ _) _) _)) hb
  refine hK.out _ _ ⟨((bcell hb).1 w.heap.size 3 (by simp; omega)).trans hHeld.1, ((bcell hb).1 w.heap.size 1 (by simp; omega)).trans hHeld.2⟩ (fun hHeld2 => ?_)
  clear hK Kx hb
  refine tW 6 96 (.string (mkS r2)) ?_
  simp only [puts]
  refine tW 7 4 (.string (mkS r2)) ?_
  simp only [puts]
  refine wpAnyH_done (by kernel_rfl) ?_ _
  go_wp2
  go_returns
  refine ⟨?_, unhide HB⟩
  rw [← unhide HZ0, unhide HZ]
  rfl
set_option maxRecDepth 100000 in
set_option maxHeartbeats 8000000 in
theorem text_5s (ns : List Nd) (g cap i : Nat) (n : Nd) (w : World) (_ : g < w.heap.size) (hn : NodesAt w g 0 ns) (hni : ns[i]? = some n) (hK : n.K = 5) (h0 : n.Kids.length = 0) (hST : n.S = n.T) :
    Calls Tryz.prog 11 #[.slice (some ⟨g, 0, none⟩) ns.length cap, .int .i64 (i : Int)] w fun e w' => e = .returned (.string (mkS (n.S.toList))) ∧ Below w.heap.size w w' := by
  have hi : i < ns.length := (List.getElem?_eq_some_iff.1 hni).1
  obtain ⟨⟨x0, x1, x2, x3, x4⟩, kg, x5, _, hkg, hks⟩ := hn i n hni
  simp only [Nat.zero_add] at x0 x1 x2 x3 x4 x5
  rw [hK] at x0
  rw [h0] at x5
  have j0 : (i : Int) < (ns.length : Int) := by omega
  obtain ⟨Z, hZ⟩ : ∃ Z : List UInt8, n.S.toList = Z := ⟨_, rfl⟩
  rw [hZ]
  have HZ0 := hide hZ
  clear hZ
  have HN := hide hn
  have HKs := hide hks
  clear hn hks hni
  rw [← hST] at x4
  clear hST
  have HE : Hid (n.S = mkS n.S.toList) := eq_mkS _
  go_enter Tryz.func11, Tryz.ntmps11
  go_wp2
  go_loopw [7] (fun c wr => c = .int .i64 0 ∧ wr = (w.alloc (.cells #[.int .i64 5, .int .i64 n.N, .int .i64 n.M, .string n.S, .string n.S, .slice (some ⟨kg, 0, none⟩) 0 0] 54)).alloc (.cells #[] 9)) (fun _ _ => 0)
  case atStart => exact ⟨rfl, rfl⟩
  obtain ⟨rfl, rfl⟩ := hrel
  go_wp2
  go_returns
  refine ⟨?_, bA (bA (Below.refl _ _) _) _⟩
  rw [← unhide HZ0, ← unhide HE]
  rfl
set_option maxRecDepth 100000 in
set_option maxHeartbeats 8000000 in
theorem text_5t (ns : List Nd) (g cap i : Nat) (n : Nd) (w : World) (_ : g < w.heap.size) (hn : NodesAt w g 0 ns) (hni : ns[i]? = some n) (hK : n.K = 5) (h0 : n.Kids.length = 0) (hST : (n.S.toList == n.T.toList) = false) (hS : n.S.toList.length ≤ 64) (hT : n.T.toList.length ≤ 64) :
    Calls Tryz.prog 11 #[.slice (some ⟨g, 0, none⟩) ns.length cap, .int .i64 (i : Int)] w fun e w' => e = .returned (.string (mkS (n.S.toList ++ [32] ++ n.T.toList))) ∧ Below w.heap.size w w' := by
  have hi : i < ns.length := (List.getElem?_eq_some_iff.1 hni).1
  obtain ⟨⟨x0, x1, x2, x3, x4⟩, kg, x5, _, hkg, hks⟩ := hn i n hni
  simp only [Nat.zero_add] at x0 x1 x2 x3 x4 x5
  rw [hK] at x0
  rw [h0] at x5
  have j0 : (i : Int) < (ns.length : Int) := by omega
  obtain ⟨Z, hZ⟩ : ∃ Z : List UInt8, n.S.toList ++ [32] ++ n.T.toList = Z := ⟨_, rfl⟩
  rw [hZ]
  have HZ0 := hide hZ
  clear hZ
  have HN := hide hn
  have HKs := hide hks
  clear hn hks hni
  obtain ⟨r1, h1⟩ : ∃ r, n.S.toList ++ ([32] : List UInt8) = r := ⟨_, rfl⟩
  have l1 : r1.length ≤ 200000000 := by rw [← h1]; first | (simp; done) | (simp; omega)
  have A1 : ∀ w, (Op.stringOp .add n.S ⟨#[32]⟩).run Tryz.prog w = .ok (.string (mkS r1)) w := fun w => by rw [← h1, eq_mkS n.S, mkS_toList]; exact cat_is Tryz.prog w n.S.toList ([32] : List UInt8) (by first | omega | (simp; done) | (simp; omega))
  obtain ⟨r2, h2⟩ : ∃ r, r1 ++ n.T.toList = r := ⟨_, rfl⟩
  have l2 : r2.length ≤ 400000000 := by rw [← h2]; first | (simp; done) | (simp; omega)
  have A2 : ∀ w, (Op.stringOp .add (mkS r1) n.T).run Tryz.prog w = .ok (.string (mkS r2)) w := fun w => by rw [← h2, eq_mkS n.T, mkS_toList]; exact cat_is Tryz.prog w r1 n.T.toList (by first | omega | (simp; done) | (simp; omega))
  have HZ : Hid (n.S.toList ++ [32] ++ n.T.toList = r2) := by
    show _ = _
    rw [← h2, ← h1]
  clear h1 l1 h2 l2
  go_enter Tryz.func11, Tryz.ntmps11
  go_wp2
  go_loopw [7] (fun c wr => c = .int .i64 0 ∧ wr = (w.alloc (.cells #[.int .i64 5, .int .i64 n.N, .int .i64 n.M, .string n.S, .string n.T, .slice (some ⟨kg, 0, none⟩) 0 0] 54)).alloc (.cells #[] 9)) (fun _ _ => 0)
  case atStart => exact ⟨rfl, rfl⟩
  obtain ⟨rfl, rfl⟩ := hrel
  go_wp2
  go_returns
  refine ⟨?_, bA (bA (Below.refl _ _) _) _⟩
  rw [← unhide HZ0, unhide HZ]
  rfl
end Go.Proofs.YtmcbmmpjhijagaaGreatDoor
