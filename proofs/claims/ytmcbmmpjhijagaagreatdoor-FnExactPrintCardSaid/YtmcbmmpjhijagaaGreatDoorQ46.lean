import Derived.Test.YtmcbmmpjhijagaaGreatDoorPrText
import Derived.Test.YtmcbmmpjhijagaaGreatDoorQ40
import Derived.Test.YtmcbmmpjhijagaaGreatDoorQ45
import Derived.Test.YtmcbmmpjhijagaaGreatDoorQ33
import Derived.Test.YtmcbmmpjhijagaaGreatDoorQ3
namespace Go.Proofs.YtmcbmmpjhijagaaGreatDoor
open Go Go.RowKit
noncomputable def ptx (ns : List Nd) : List UInt8 := if dB (IV ns) = true then txt ns else []
theorem Print_calls (ns : List Nd) (g cap : Nat) (w : World) (hg : g < w.heap.size) (hn : NodesAt w g 0 ns) (hb0 : ns.length ≤ 1048576) (hsm : Small ns) (hTK : TKw w) (hTR : TRules w) (hTP : TP w) (h8 : 8 ≤ w.heap.size) :
    Calls Tryz.prog 7 #[.agg #[.slice (some ⟨g, 0, none⟩) ns.length cap]] w fun e w' => e = .returned (.string (mkS (ptx ns))) ∧ Below w.heap.size w w' := by
  unfold ptx
  by_cases h : IV ns
  · rw [if_pos (dB_true h)]
    exact Print_yes ns h g cap w hg hn hb0 hsm hTK hTR hTP h8
  · rw [if_neg (by rw [dB_false h]; decide)]
    exact Print_no ns h g cap w hg hn hb0 hsm hTK hTR
set_option maxRecDepth 100000 in
set_option maxHeartbeats 2000000 in
theorem sPrint_calls (ns : List Nd) (g cap : Nat) (w : World) (hg : g < w.heap.size) (hn : NodesAt w g 0 ns) (hb0 : ns.length ≤ 1048576) (hsm : Small ns) :
    Calls Tryz.prog 5 #[.agg #[.slice (some ⟨g, 0, none⟩) ns.length cap]] w fun e w' => e = .returned (.string (mkS (ptx ns))) ∧ Below w.heap.size w w' := by
  have HA := hide (fun W (hb : Below w.heap.size w W) => sAstOk_calls ns g cap W (Nat.lt_of_lt_of_le hg hb.size) (hn.of hg hb) hb0 hsm)
  unfold ptx
  by_cases h : IV ns
  · rw [if_pos (dB_true h)]
    rw [← dB_congr (iv_iff_sv ns), dB_true h] at HA
    have hlo := h.lo
    have HT := hide (fun W (hb : Below w.heap.size w W) => l2Text_all ns h g cap (ns.length - 1) (by omega) W (Nat.lt_of_lt_of_le hg hb.size) (hn.of hg hb))
    have hj : ((ns.length : Int) - 1) = ((ns.length - 1 : Nat) : Int) := by omega
    obtain ⟨t, ht⟩ : ∃ t, txt ns = t := ⟨_, rfl⟩
    have ht2 : tj (wds ns (ns.length - 1)) = t := ht
    rw [ht]
    rw [ht2] at HT
    obtain ⟨l, hl⟩ : ∃ l : Nat, ns.length - 1 = l := ⟨_, rfl⟩
    rw [hl] at HT hj
    clear hn hsm h ht ht2 hl
    go_enter Tryz.func5, Tryz.ntmps5
    go_wp2_with fail
    refine (unhide HA _ (bA (Below.refl _ _) _)).mono ?_
    rintro e w1 ⟨rfl, hb1⟩
    have HB := hide (bT (bA (Below.refl w.heap.size w) _) hb1)
    have ba1 : w1.cell? ⟨w.heap.size, 0, none⟩ = some (.slice (some ⟨g, 0, none⟩) ns.length cap) := (hb1.cell (p := ⟨w.heap.size, 0, none⟩) (by simp)).trans (by simp [go_sem])
    have s1 : w.heap.size < w1.heap.size := by have := hb1.size; simp at this; omega
    clear hb1
    go_wp2_with fail
    refine (unhide HT _ (unhide HB)).mono ?_
    rintro e w2 ⟨rfl, hb2⟩
    have HB2 := hide (bT (unhide HB) hb2)
    clear hb2
    go_wp2
    go_returns
    exact ⟨rfl, unhide HB2⟩
  · rw [if_neg (by rw [dB_false h]; decide)]
    rw [← dB_congr (iv_iff_sv ns), dB_false h] at HA
    clear hn hsm h
    go_enter Tryz.func5, Tryz.ntmps5
    go_wp2_with fail
    refine (unhide HA _ (bA (Below.refl _ _) _)).mono ?_
    rintro e w1 ⟨rfl, hb1⟩
    have HB := hide (bT (bA (Below.refl w.heap.size w) _) hb1)
    clear hb1
    go_wp2
    go_returns
    exact ⟨rfl, unhide HB⟩
end Go.Proofs.YtmcbmmpjhijagaaGreatDoor
namespace Go.Proofs.YtmcbmmpjhijagaaGreatDoor
open Go Go.RowKit
theorem NodesAt.far {w : World} {g off : Nat} {ns : List Nd} (h : NodesAt w g off ns) {X O : Nat} (hX : X < g) (v : Value) : NodesAt (w.setCell ⟨X, O, none⟩ v) g off ns := fun i n hn => by
  obtain ⟨⟨c0, c1, c2, c3, c4⟩, kg, c5, h1, h2, h3⟩ := h i n hn
  refine ⟨⟨?_, ?_, ?_, ?_, ?_⟩, kg, ?_, h1, by simpa using h2, fun j x hx => ?_⟩
  · rw [setCell_farN (by omega)]; exact c0
  · rw [setCell_farN (by omega)]; exact c1
  · rw [setCell_farN (by omega)]; exact c2
  · rw [setCell_farN (by omega)]; exact c3
  · rw [setCell_farN (by omega)]; exact c4
  · rw [setCell_farN (by omega)]; exact c5
  · rw [setCell_farN (by omega)]; exact h3 j x hx
theorem make_nodes (n : Nat) (hn : n ≤ 1048576) (w : World) :
    (Instr.makeSlice 27 (.int .i64 (n : Int)) (.int .i64 (n : Int))).run Tryz.prog w = .ok (.slice (some ⟨w.heap.size, 0, none⟩) n n) (w.alloc (.cells (madeCells #[.int .i64 0, .int .i64 0, .int .i64 0, .string ByteArray.empty, .string ByteArray.empty, .slice none 0 0] (n * 6)) 54)) := by
  obtain ⟨i, hi, hz⟩ := Option.map_eq_some_iff.1 (show (Tryz.prog.info? 54).map (fun i => (i.zero, i.size, i.bytes)) = some (some (.agg #[.int .i64 0, .int .i64 0, .int .i64 0, .string ByteArray.empty, .string ByteArray.empty, .slice none 0 0]), 6, 80) by kernel_rfl)
  simp only [Prod.mk.injEq] at hz
  have := run_make (P := Tryz.prog) w 27 54 i _ Tryz.underlying27 hi hz.1 .i64 .i64 (n : Int) (n : Int) (by omega) (by omega) (by rw [hz.2.2]; omega) (by omega)
  rw [hz.2.1] at this
  simpa [Value.cells] using this
theorem make_nodes0 (w : World) : (Instr.makeSlice 27 (.int .i64 0) (.int .i64 0)).run Tryz.prog w = .ok (.slice (some ⟨w.heap.size, 0, none⟩) 0 0) (w.alloc (.cells #[] 54)) := by
  have := make_nodes 0 (by omega) w
  rw [show madeCells #[.int .i64 0, .int .i64 0, .int .i64 0, .string ByteArray.empty, .string ByteArray.empty, .slice none 0 0] (0 * 6) = #[] from Array.eq_empty_of_size_eq_zero (by simp [size_madeCells])] at this
  simpa using this
set_option maxHeartbeats 1000000 in
theorem toIntS_calls (v : Value) (xs : List Int) (w : World) (hv : IsInts w v xs) (hn : xs.length ≤ 1048576) :
    Calls Tryz.prog 56 #[v] w fun e w' => ∃ g, e = .returned (.slice (some ⟨g, 0, none⟩) xs.length xs.length) ∧ w.heap.size ≤ g ∧ OwnInts w' g xs.length xs ∧ Below w.heap.size w w' := by
  rcases hv with ⟨rfl, a, cap, rfl⟩ | ⟨g, off, cap, rfl, hcap, hg, hr⟩
  · have hmk := make_ints0
    clear hn
    go_enter Tryz.func56, Tryz.ntmps56
    go_wp2
    go_loopw [4] (fun i wr => i = .int .i64 0 ∧ OwnInts wr w.heap.size 0 [] ∧ Below w.heap.size w wr) (fun _ _ => 0)
    case atStart => exact ⟨rfl, OwnInts.made w 0 #[] _ rfl, bA (Below.refl _ _) _⟩
    case round =>
      obtain ⟨rfl, ho, hb⟩ := hrel
      go_wp2
      go_ret
      exact ⟨_, rfl, Nat.le_refl _, ho, hb⟩
  · have hmk := make_ints xs.length hn
    have hO : Hid (OwnInts (w.alloc (.cells (madeCells #[.int .i64 0] xs.length) 3)) w.heap.size xs.length []) := OwnInts.made w _ _ _ (by simp [size_madeCells])
    go_enter Tryz.func56, Tryz.ntmps56
    go_wp2
    go_loopw [4] (fun i wr => ∃ k : Nat, k ≤ xs.length ∧ i = .int .i64 k ∧ OwnInts wr w.heap.size xs.length (xs.take k) ∧ Below w.heap.size w wr) (fun i _ => xs.length - (intOf i).toNat)
    case atStart => exact ⟨0, Nat.zero_le _, rfl, by simpa using hO.out, bA (Below.refl _ _) _⟩
    case round =>
      clear hO hmk
      obtain ⟨k, hk, rfl, ho, hb⟩ := hrel
      by_cases hlt : k < xs.length
      · have e0 := (hr.of hg hb).at k hlt
        have hN : Hid (OwnInts (wr.setCell ⟨w.heap.size, k, none⟩ (.int .i64 xs[k])) w.heap.size xs.length (xs.take (k + 1))) := ho.put hlt hlt
        obtain ⟨u0, hu0⟩ := ho.all k hlt
        have hf := ho.frz
        have q1 : g < wr.heap.size := Nat.lt_of_lt_of_le hg hb.size
        clear ho
        go_wp2
        go_roundw
        case rel => exact ⟨k + 1, by omega, by go_num, hN.out, hb.setCell (Nat.le_refl _) _⟩
        case measure => simp [intOf]; omega
      · obtain rfl : k = xs.length := by omega
        rw [List.take_length] at ho
        go_wp2
        go_ret
        exact ⟨_, rfl, Nat.le_refl _, ho, hb⟩
set_option maxHeartbeats 1000000 in
theorem toNode_calls (K N M : Int) (S T : ByteArray) (v : Value) (xs : List Int) (w : World) (hv : IsInts w v xs) (hn : xs.length ≤ 1048576) :
    Calls Tryz.prog 29 #[.agg #[.int .i64 K, .int .i64 N, .int .i64 M, .string S, .string T, v]] w fun e w' => ∃ kg, e = .returned (.agg #[.int .i64 K, .int .i64 N, .int .i64 M, .string S, .string T, .slice (some ⟨kg, 0, none⟩) xs.length xs.length]) ∧ w.heap.size ≤ kg ∧ OwnInts w' kg xs.length xs ∧ Below w.heap.size w w' := by
  have TI := fun W (hb : Below w.heap.size w W) => toIntS_calls v xs W (hv.of hb) hn
  have HT := hide TI
  obtain ⟨a, cap, rfl⟩ : ∃ a cap, v = .slice a xs.length cap := by
    rcases hv with ⟨rfl, a, cap, rfl⟩ | ⟨g, off, cap, rfl, _⟩
    · exact ⟨a, cap, rfl⟩
    · exact ⟨_, cap, rfl⟩
  clear TI hv
  go_enter Tryz.func29, Tryz.ntmps29
  go_wp2_with fail
  refine (unhide HT _ (by (repeat (first | exact Below.refl _ _ | refine bA ?_ _ | refine Below.setCell ?_ (by simp <;> omega) _)))).mono ?_; rintro e w1 ⟨kg, rfl, hkg, ho, hb1⟩
  obtain ⟨hc, hf⟩ := bcell hb1
  have hs1 : w.heap.size + 3 ≤ w1.heap.size := by have := hb1.size; simpa using this
  have hkg1 : w.heap.size + 3 ≤ kg := by simpa using hkg
  have HO := hide ho; have HB := hide (bT (by (repeat (first | exact Below.refl _ _ | refine bA ?_ _))) hb1 : Below w.heap.size w w1)
  clear ho hb1 hkg
  go_wp2
  refine bodyPost_ret (v := .agg #[.int .i64 K, .int .i64 N, .int .i64 M, .string S, .string T, .slice (some ⟨kg, 0, none⟩) xs.length xs.length]) (by simp [results, Tryz.results29, go_sem, hc]) rfl ⟨kg, rfl, by omega, ?_, ?_⟩
  · exact ((((((((unhide HO).far (G := w.heap.size + 1 + 1) (O := 5) (by omega) _).far (G := w.heap.size + 1) (O := 0) (by omega) _).far (G := w.heap.size + 1) (O := 1) (by omega) _).far (G := w.heap.size + 1) (O := 2) (by omega) _).far (G := w.heap.size + 1) (O := 3) (by omega) _).far (G := w.heap.size + 1) (O := 4) (by omega) _).far (G := w.heap.size + 1) (O := 5) (by omega) _)
  · exact (((((((unhide HB).setCell (p := ⟨w.heap.size + 1 + 1, 5, none⟩) (by dsimp only; omega) _).setCell (p := ⟨w.heap.size + 1, 0, none⟩) (by dsimp only; omega) _).setCell (p := ⟨w.heap.size + 1, 1, none⟩) (by dsimp only; omega) _).setCell (p := ⟨w.heap.size + 1, 2, none⟩) (by dsimp only; omega) _).setCell (p := ⟨w.heap.size + 1, 3, none⟩) (by dsimp only; omega) _).setCell (p := ⟨w.heap.size + 1, 4, none⟩) (by dsimp only; omega) _).setCell (p := ⟨w.heap.size + 1, 5, none⟩) (by dsimp only; omega) _
set_option maxHeartbeats 2000000 in
theorem toNodeS_calls (v : Value) (ns : List Nd) (w : World) (hv : IsNodes w v ns) (hn : ns.length ≤ 1048576) (hk : ∀ n ∈ ns, n.Kids.length ≤ 1048576) :
    Calls Tryz.prog 12 #[v] w fun e w' => ∃ g, e = .returned (.slice (some ⟨g, 0, none⟩) ns.length ns.length) ∧ w.heap.size ≤ g ∧ OwnNodes w' g ns.length ns ∧ Below w.heap.size w w' := by
  rcases hv with ⟨rfl, a, cap, rfl⟩ | ⟨g, off, cap, rfl, hg, hr⟩
  · have hmk := make_nodes0
    clear hn hk
    go_enter Tryz.func12, Tryz.ntmps12
    go_wp2
    go_loopw [4] (fun i wr => i = .int .i64 0 ∧ OwnNodes wr w.heap.size 0 [] ∧ Below w.heap.size w wr) (fun _ _ => 0)
    case atStart => exact ⟨rfl, OwnNodes.made w 0 #[] _ rfl, bA (Below.refl _ _) _⟩
    case round =>
      obtain ⟨rfl, ho, hb⟩ := hrel
      go_wp2
      go_ret
      exact ⟨_, rfl, Nat.le_refl _, ho, hb⟩
  · have hmk := make_nodes ns.length hn
    have hO : Hid (OwnNodes (w.alloc (.cells (madeCells #[.int .i64 0, .int .i64 0, .int .i64 0, .string ByteArray.empty, .string ByteArray.empty, .slice none 0 0] (ns.length * 6)) 54)) w.heap.size ns.length []) := OwnNodes.made w _ _ _ (by simp [size_madeCells])
    have HK := hide hk
    have HR := hide hr
    clear hk hr
    go_enter Tryz.func12, Tryz.ntmps12
    go_wp2
    go_loopw [4] (fun i wr => ∃ k : Nat, k ≤ ns.length ∧ i = .int .i64 k ∧ OwnNodes wr w.heap.size ns.length (ns.take k) ∧ Below w.heap.size w wr) (fun i _ => ns.length - (intOf i).toNat)
    case atStart => exact ⟨0, Nat.zero_le _, rfl, by simpa using hO.out, bA (Below.refl _ _) _⟩
    case round =>
      clear hO hmk
      obtain ⟨k, hk, rfl, ho, hb⟩ := hrel
      by_cases hlt : k < ns.length
      · obtain ⟨hc5, u, hu, hiu⟩ := (unhide HR) k ns[k] (List.getElem?_eq_getElem hlt)
        obtain ⟨c0, c1, c2, c3, c4⟩ := hc5.of hg hb
        have c5 := (hb.cell (p := ⟨g, off + k * 6 + 5, none⟩) hg).trans hu
        have hkl := unhide HK _ (List.getElem_mem hlt)
        have hput := fun (w1 : World) (h : OwnNodes w1 w.heap.size ns.length (ns.take k)) kg h1 h2 h3 => h.put hlt hlt kg h1 h2 h3
        have hTN := fun W (hbW : Below w.heap.size w W) => toNode_calls (ns[k]).K (ns[k]).N (ns[k]).M (ns[k]).S (ns[k]).T u (ns[k]).Kids W (hiu.of hbW) hkl
        cases e : ns[k] with | mk K N M S T ks =>
        rw [e] at c0 c1 c2 c3 c4 hput hTN hiu hkl
        simp only at c0 c1 c2 c3 c4 hput hTN hiu hkl
        obtain ⟨ua, ucap, rfl⟩ : ∃ ua ucap, u = .slice ua ks.length ucap := by
          rcases hiu with ⟨rfl, a, cap, rfl⟩ | ⟨g, off, cap, rfl, _⟩
          · exact ⟨a, cap, rfl⟩
          · exact ⟨_, cap, rfl⟩
        have HTN := hide hTN; have HPut := hide hput
        have HO := hide ho
        have q1 : g < wr.heap.size := Nat.lt_of_lt_of_le hg hb.size
        have j1 : (k : Int) < (ns.length : Int) := by omega
        clear hTN hput hc5 hu hiu e ho
        go_wp2_with fail
        refine (unhide HTN _ hb).mono ?_; rintro e w1 ⟨kg, rfl, hkg, hoi, hb1⟩
        have d1 := bT hb hb1
        have ho1 := (unhide HO).of hb1
        have hN := unhide HPut w1 ho1 kg (Nat.lt_of_lt_of_le (unhide HO).size hkg) hoi.size hoi.held
        obtain ⟨u0, hu0⟩ := ho1.all (k * 6) (by omega)
        obtain ⟨u1, hu1⟩ := ho1.all (k * 6 + 1) (by omega)
        obtain ⟨u2, hu2⟩ := ho1.all (k * 6 + 2) (by omega)
        obtain ⟨u3, hu3⟩ := ho1.all (k * 6 + 3) (by omega)
        obtain ⟨u4, hu4⟩ := ho1.all (k * 6 + 4) (by omega)
        obtain ⟨u5, hu5⟩ := ho1.all (k * 6 + 5) (by omega)
        have hf := ho1.frz
        have HN := hide hN
        have HB := hide (putNode_below (g := w.heap.size) (o := k * 6) d1 (Nat.le_refl _) ⟨K, N, M, S, T, ks⟩ kg)
        clear hN ho1 hoi hb1 HO HPut HTN c0 c1 c2 c3 c4 c5 hkg
        go_wp2
        go_roundw
        case rel => exact ⟨k + 1, by omega, by go_num, unhide HN, unhide HB⟩
        case measure => simp [intOf]; omega
      · obtain rfl : k = ns.length := by omega
        rw [List.take_length] at ho
        go_wp2
        go_ret
        exact ⟨_, rfl, Nat.le_refl _, ho, hb⟩
set_option maxHeartbeats 1000000 in
theorem toAst_calls (v : Value) (ns : List Nd) (w : World) (hv : IsNodes w v ns) (hn : ns.length ≤ 1048576) (hk : ∀ n ∈ ns, n.Kids.length ≤ 1048576) :
    Calls Tryz.prog 6 #[.agg #[v]] w fun e w' => ∃ g, e = .returned (.agg #[.slice (some ⟨g, 0, none⟩) ns.length ns.length]) ∧ w.heap.size ≤ g ∧ g < w'.heap.size ∧ NodesAt w' g 0 ns ∧ Below w.heap.size w w' := by
  have TI := fun W (hb : Below w.heap.size w W) => toNodeS_calls v ns W (hv.of hb) hn hk
  have HT := hide TI
  obtain ⟨a, cap, rfl⟩ : ∃ a cap, v = .slice a ns.length cap := by
    rcases hv with ⟨rfl, a, cap, rfl⟩ | ⟨g, off, cap, rfl, _⟩
    · exact ⟨a, cap, rfl⟩
    · exact ⟨_, cap, rfl⟩
  clear TI hv
  go_enter Tryz.func6, Tryz.ntmps6
  go_wp2_with fail
  refine (unhide HT _ (by (repeat (first | exact Below.refl _ _ | refine bA ?_ _)))).mono ?_; rintro e w1 ⟨g, rfl, hg, ho, hb1⟩
  obtain ⟨hc, hf⟩ := bcell hb1
  have hs1 : w.heap.size + 3 ≤ w1.heap.size := by have := hb1.size; simpa using this
  have hg1 : w.heap.size + 3 ≤ g := by simpa using hg
  have HO := hide ho; have HB := hide (bT (by (repeat (first | exact Below.refl _ _ | refine bA ?_ _))) hb1 : Below w.heap.size w w1)
  clear ho hb1 hg
  go_wp2
  refine bodyPost_ret (v := .agg #[.slice (some ⟨g, 0, none⟩) ns.length ns.length]) (by simp [results, Tryz.results6, go_sem, hc]) rfl ⟨g, rfl, by omega, ?_, ?_, ?_⟩
  · have := (unhide HO).size
    simpa using this
  · exact ((unhide HO).held.far (X := w.heap.size + 1 + 1) (O := 0) (by omega) _).far (X := w.heap.size + 1) (O := 0) (by omega) _
  · exact ((unhide HB).setCell (p := ⟨w.heap.size + 1 + 1, 0, none⟩) (by dsimp only; omega) _).setCell (p := ⟨w.heap.size + 1, 0, none⟩) (by dsimp only; omega) _
end Go.Proofs.YtmcbmmpjhijagaaGreatDoor
namespace Go.Proofs.YtmcbmmpjhijagaaGreatDoor
def szr (left : Int) (t : Nat) : Int := if left < (t : Int) then -1 else left - (t : Int)
end Go.Proofs.YtmcbmmpjhijagaaGreatDoor
