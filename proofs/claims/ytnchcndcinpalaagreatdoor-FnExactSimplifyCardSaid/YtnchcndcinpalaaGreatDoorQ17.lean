import Derived.Test.YtnchcndcinpalaaGreatDoorQ3
import Derived.Test.YtnchcndcinpalaaGreatDoorQ1
import Derived.OwnWalk
import Derived.Test.YtnchcndcinpalaaGreatDoorQ5
/-
  COPIES OF PLANS.
-/
namespace Go.Proofs.YtnchcndcinpalaaGreatDoor
open Go Go.RowKit

/-- make([][]impl.Op, n) -/
theorem make_opss (n : Nat) (hn : n ≤ 1048576) (w : World) :
    (Instr.makeSlice 65 (.int .i64 (n : Int)) (.int .i64 (n : Int))).run Tryz.prog w = .ok (.slice (some ⟨w.heap.size, 0, none⟩) n n) (w.alloc (.cells (madeCells #[.slice none 0 0] n) 64)) := by
  obtain ⟨i, hi, hz⟩ := Option.map_eq_some_iff.1 (show (Tryz.prog.info? 64).map (fun i => (i.zero, i.size, i.bytes)) = some (some (.slice none 0 0), 1, 24) by kernel_rfl)
  simp only [Prod.mk.injEq] at hz
  have := run_make (P := Tryz.prog) w 65 64 i _ Tryz.underlying65 hi hz.1 .i64 .i64 (n : Int) (n : Int) (by omega) (by omega) (by rw [hz.2.2]; omega) (by omega)
  rw [hz.2.1] at this
  simpa [Value.cells] using this
theorem make_opss0 (w : World) : (Instr.makeSlice 65 (.int .i64 0) (.int .i64 0)).run Tryz.prog w = .ok (.slice (some ⟨w.heap.size, 0, none⟩) 0 0) (w.alloc (.cells #[] 64)) := by
  have := make_opss 0 (by omega) w
  rw [show madeCells #[.slice none 0 0] 0 = #[] from Array.eq_empty_of_size_eq_zero (by simp [size_madeCells])] at this
  simpa using this
/-- make([]impl.PNode, n) -/
theorem make_pns (n : Nat) (hn : n ≤ 1048576) (w : World) :
    (Instr.makeSlice 50 (.int .i64 (n : Int)) (.int .i64 (n : Int))).run Tryz.prog w = .ok (.slice (some ⟨w.heap.size, 0, none⟩) n n) (w.alloc (.cells (madeCells #[.int .i64 0, .int .i64 0, .int .i64 0, .slice none 0 0, .slice none 0 0, .int .i64 0, .int .i64 0] (n * 7)) 130)) := by
  obtain ⟨i, hi, hz⟩ := Option.map_eq_some_iff.1 (show (Tryz.prog.info? 130).map (fun i => (i.zero, i.size, i.bytes)) = some (some (.agg #[.int .i64 0, .int .i64 0, .int .i64 0, .slice none 0 0, .slice none 0 0, .int .i64 0, .int .i64 0]), 7, 88) by kernel_rfl)
  simp only [Prod.mk.injEq] at hz
  have := run_make (P := Tryz.prog) w 50 130 i _ Tryz.underlying50 hi hz.1 .i64 .i64 (n : Int) (n : Int) (by omega) (by omega) (by rw [hz.2.2]; omega) (by omega)
  rw [hz.2.1] at this
  simpa [Value.cells] using this
theorem make_pns0 (w : World) : (Instr.makeSlice 50 (.int .i64 0) (.int .i64 0)).run Tryz.prog w = .ok (.slice (some ⟨w.heap.size, 0, none⟩) 0 0) (w.alloc (.cells #[] 130)) := by
  have := make_pns 0 (by omega) w
  rw [show madeCells #[.int .i64 0, .int .i64 0, .int .i64 0, .slice none 0 0, .slice none 0 0, .int .i64 0, .int .i64 0] (0 * 7) = #[] from Array.eq_empty_of_size_eq_zero (by simp [size_madeCells])] at this
  simpa using this

set_option maxHeartbeats 1000000 in
theorem toOpSS_calls (v : Value) (oss : List (List O2)) (w : World) (hv : IsOpss w v oss) (hn : oss.length ≤ 1048576) (hx : bulkO oss ≤ 1048576) :
    Calls Tryz.prog 99 #[v] w fun e w' => ∃ G, e = .returned (.slice (some ⟨G, 0, none⟩) oss.length oss.length) ∧ w.heap.size ≤ G ∧ OwnOpss w' G oss.length oss ∧ Below w.heap.size w w' := by
  rcases hv with ⟨rfl, a, cap, rfl⟩ | ⟨g, off, cap, rfl, hg, hr⟩
  · have hmk := make_opss0
    clear hn hx
    go_enter Tryz.func99, Tryz.ntmps99
    go_wp2
    go_loopw [4] (fun i wr => i = .int .i64 0 ∧ OwnOpss wr w.heap.size 0 [] ∧ Below w.heap.size w wr) (fun _ _ => 0)
    case atStart => exact ⟨rfl, OwnOpss.made w 0 #[] _ rfl, bA (Below.refl _ _) _⟩
    case round =>
      obtain ⟨rfl, ho, hb⟩ := hrel
      go_wp2
      go_ret
      exact ⟨_, rfl, Nat.le_refl _, ho, hb⟩
  · have hmk := make_opss oss.length hn
    have hO : Hid (OwnOpss (w.alloc (.cells (madeCells #[.slice none 0 0] oss.length) 64)) w.heap.size oss.length []) := OwnOpss.made w _ _ _ (by simp [size_madeCells])
    have HR := hide hr
    clear hr
    go_enter Tryz.func99, Tryz.ntmps99
    go_wp2
    go_loopw [4] (fun i wr => ∃ k : Nat, k ≤ oss.length ∧ i = .int .i64 k ∧ OwnOpss wr w.heap.size oss.length (oss.take k) ∧ Below w.heap.size w wr) (fun i _ => oss.length - (intOf i).toNat)
    case atStart => exact ⟨0, Nat.zero_le _, rfl, by simpa using hO.out, bA (Below.refl _ _) _⟩
    case round =>
      clear hO hmk
      obtain ⟨k, hk, rfl, ho, hb⟩ := hrel
      by_cases hlt : k < oss.length
      · obtain ⟨u, hu, hru⟩ := (unhide HR) k oss[k] (List.getElem?_eq_getElem hlt)
        have e0 : wr.cell? ⟨g, off + k, none⟩ = some u := (hb.cell (p := ⟨g, off + k, none⟩) hg).trans hu
        have hxk : oss[k].length ≤ 1048576 := Nat.le_trans (bulkO_mem (List.getElem_mem hlt)) hx
        have q1 : g < wr.heap.size := Nat.lt_of_lt_of_le hg hb.size
        have HO := hide ho
        clear ho
        go_wp2_with fail
        refine (toOpS_calls u oss[k] _ (hru.of hb) hxk).mono ?_; rintro e w1 ⟨g1, rfl, hg1, ho1, hb1⟩
        have d1 := bT hb hb1
        have hoG := (unhide HO).of hb1
        have hN := hide (hoG.put hlt hlt g1 (Nat.lt_of_lt_of_le (unhide HO).size hg1) ho1.size ho1.held)
        obtain ⟨u0, hu0⟩ := hoG.all k hlt
        have hf := hoG.frz
        clear hoG hb1 HO ho1 hg1 e0
        go_wp2
        go_roundw
        case rel => exact ⟨k + 1, by omega, by go_num, unhide hN, d1.setCell (Nat.le_refl _) _⟩
        case measure => simp [intOf]; omega
      · obtain rfl : k = oss.length := by omega
        rw [List.take_length] at ho
        go_wp2
        go_ret
        exact ⟨_, rfl, Nat.le_refl _, ho, hb⟩

set_option maxHeartbeats 2000000 in
theorem toPNode_calls (K T M L R : Int) (v v' : Value) (xs : List O2) (oss : List (List O2)) (w : World) (hv : IsOps w v xs) (hv' : IsOpss w v' oss) (hn : xs.length ≤ 1048576) (hn' : oss.length ≤ 1048576) (hx : bulkO oss ≤ 1048576) :
    Calls Tryz.prog 82 #[.agg #[.int .i64 K, .int .i64 T, .int .i64 M, v, v', .int .i64 L, .int .i64 R]] w fun e w' => ∃ b b', e = .returned (.agg #[.int .i64 K, .int .i64 T, .int .i64 M, .slice (some ⟨b, 0, none⟩) xs.length xs.length, .slice (some ⟨b', 0, none⟩) oss.length oss.length, .int .i64 L, .int .i64 R]) ∧
      w.heap.size ≤ b ∧ b < w'.heap.size ∧ OpsAt w' b 0 xs ∧ w.heap.size ≤ b' ∧ b' < w'.heap.size ∧ OpssAt w' b' oss ∧ Below w.heap.size w w' := by
  have TI := fun W (hb : Below w.heap.size w W) => toOpS_calls v xs W (hv.of hb) hn
  have TJ := fun W (hb : Below w.heap.size w W) => toOpSS_calls v' oss W (hv'.of hb) hn' hx
  have HT := hide TI; have HJ := hide TJ
  obtain ⟨a, cap, rfl⟩ := isOps_slice hv
  obtain ⟨a', cap', rfl⟩ := isOpss_slice hv'
  clear TI TJ hv hv'
  go_enter Tryz.func82, Tryz.ntmps82
  go_wp2_with fail
  refine (unhide HT _ (by (repeat (first | exact Below.refl _ _ | refine bA ?_ _ | refine Below.setCell ?_ (by simp <;> omega) _)))).mono ?_; rintro e w1 ⟨b, rfl, hb0, ho, hb1⟩
  obtain ⟨hc, hf⟩ := bcell hb1
  have hs1 : w.heap.size + 3 ≤ w1.heap.size := by have := hb1.size; simpa using this
  have hbb : w.heap.size + 3 ≤ b := by simpa using hb0
  have d1 : Below w.heap.size w w1 := bT (by (repeat (first | exact Below.refl _ _ | refine bA ?_ _))) hb1
  have HO := hide ho
  clear ho hb1 hb0
  go_wp2_with fail
  refine (unhide HJ _ (d1.setCell (by dsimp only; omega) _)).mono ?_; rintro e w2 ⟨b', rfl, hb0', ho', hb2⟩
  have hs2 : w1.heap.size ≤ w2.heap.size := by have := hb2.size; simpa using this
  have hbb' : w1.heap.size ≤ b' := by simpa using hb0'
  obtain ⟨hc2, hf2⟩ := bcell hb2
  simp only [World.size_setCell] at hc2 hf2
  have d2 : Below w.heap.size w w2 := bT (d1.setCell (by dsimp only; omega) _) hb2
  have hO2 : OpsAt w2 b 0 xs := ((unhide HO).held.far (X := w.heap.size + 1 + 1) (O := 3) (by omega) _).of (by simpa using (unhide HO).size) hb2
  have hsb : b < w2.heap.size := Nat.lt_of_lt_of_le (unhide HO).size hs2
  have HO2 := hide hO2; have HP := hide ho'.held; have HD := hide d2
  have hsb' := ho'.size
  have z1 : w.heap.size < w1.heap.size := by omega
  have z2 : w.heap.size + 1 < w1.heap.size := by omega
  have z3 : w.heap.size + 1 + 1 < w1.heap.size := by omega
  clear hO2 ho' d2 d1 hb2 HO hb0'
  go_wp2
  refine bodyPost_ret (v := .agg #[.int .i64 K, .int .i64 T, .int .i64 M, .slice (some ⟨b, 0, none⟩) xs.length xs.length, .slice (some ⟨b', 0, none⟩) oss.length oss.length, .int .i64 L, .int .i64 R]) (by simp [results, Tryz.results82, go_sem, hc, hc2, z2]) rfl ⟨b, b', rfl, by omega, by simpa using hsb, ?_, by omega, by simpa using hsb', ?_, ?_⟩
  · (repeat (refine OpsAt.far ?_ (by omega) _))
    exact unhide HO2
  · (repeat (refine OpssAt.far ?_ (by omega) _))
    exact unhide HP
  · (repeat (refine Below.setCell ?_ (by dsimp only; omega) _))
    exact unhide HD

set_option maxHeartbeats 2000000 in
theorem toPNodeS_calls (v : Value) (ps : List Pn) (w : World) (hv : IsPns w v ps) (hn : ps.length ≤ 1048576) (hk : ∀ p ∈ ps, p.Ex.length ≤ 1048576 ∧ p.Exs.length ≤ 1048576 ∧ bulkO p.Exs ≤ 1048576) :
    Calls Tryz.prog 45 #[v] w fun e w' => ∃ g, e = .returned (.slice (some ⟨g, 0, none⟩) ps.length ps.length) ∧ w.heap.size ≤ g ∧ OwnPns w' g ps.length ps ∧ Below w.heap.size w w' := by
  rcases hv with ⟨rfl, a, cap, rfl⟩ | ⟨g, off, cap, rfl, hg, hr⟩
  · have hmk := make_pns0
    clear hn hk
    go_enter Tryz.func45, Tryz.ntmps45
    go_wp2
    go_loopw [4] (fun i wr => i = .int .i64 0 ∧ OwnPns wr w.heap.size 0 [] ∧ Below w.heap.size w wr) (fun _ _ => 0)
    case atStart => exact ⟨rfl, OwnPns.made w 0 #[] _ rfl, bA (Below.refl _ _) _⟩
    case round =>
      obtain ⟨rfl, ho, hb⟩ := hrel
      go_wp2
      go_ret
      exact ⟨_, rfl, Nat.le_refl _, ho, hb⟩
  · have hmk := make_pns ps.length hn
    have hO : Hid (OwnPns (w.alloc (.cells (madeCells #[.int .i64 0, .int .i64 0, .int .i64 0, .slice none 0 0, .slice none 0 0, .int .i64 0, .int .i64 0] (ps.length * 7)) 130)) w.heap.size ps.length []) := OwnPns.made w _ _ _ (by simp [size_madeCells])
    have HK := hide hk
    have HR := hide hr
    clear hk hr
    go_enter Tryz.func45, Tryz.ntmps45
    go_wp2
    go_loopw [4] (fun i wr => ∃ k : Nat, k ≤ ps.length ∧ i = .int .i64 k ∧ OwnPns wr w.heap.size ps.length (ps.take k) ∧ Below w.heap.size w wr) (fun i _ => ps.length - (intOf i).toNat)
    case atStart => exact ⟨0, Nat.zero_le _, rfl, by simpa using hO.out, bA (Below.refl _ _) _⟩
    case round =>
      clear hO hmk
      obtain ⟨k, hk, rfl, ho, hb⟩ := hrel
      by_cases hlt : k < ps.length
      · obtain ⟨a0, a1, a2, a5, a6, ⟨u, a3, hu⟩, u', a4, hu'⟩ := (unhide HR) k ps[k] (List.getElem?_eq_getElem hlt)
        have c0 := (hb.cell (p := ⟨g, off + k * 7, none⟩) hg).trans a0
        have c1 := (hb.cell (p := ⟨g, off + k * 7 + 1, none⟩) hg).trans a1
        have c2 := (hb.cell (p := ⟨g, off + k * 7 + 2, none⟩) hg).trans a2
        have c3 := (hb.cell (p := ⟨g, off + k * 7 + 3, none⟩) hg).trans a3
        have c4 := (hb.cell (p := ⟨g, off + k * 7 + 4, none⟩) hg).trans a4
        have c5 := (hb.cell (p := ⟨g, off + k * 7 + 5, none⟩) hg).trans a5
        have c6 := (hb.cell (p := ⟨g, off + k * 7 + 6, none⟩) hg).trans a6
        obtain ⟨hk1, hk2, hk3⟩ := unhide HK _ (List.getElem_mem hlt)
        have hput := fun (w1 : World) (h : OwnPns w1 w.heap.size ps.length (ps.take k)) b b' h1 h2 h3 h4 h5 h6 => h.put hlt hlt b b' h1 h2 h3 h4 h5 h6
        have hTN := fun W (hbW : Below w.heap.size w W) => toPNode_calls (ps[k]).K (ps[k]).T (ps[k]).M (ps[k]).L (ps[k]).R u u' (ps[k]).Ex (ps[k]).Exs W (hu.of hbW) (hu'.of hbW) hk1 hk2 hk3
        cases e : ps[k] with | mk K T M Ex Exs L R =>
        rw [e] at c0 c1 c2 c5 c6 hput hTN hu hu'
        simp only at c0 c1 c2 c5 c6 hput hTN hu hu'
        obtain ⟨ua, ucap, rfl⟩ := isOps_slice hu
        obtain ⟨ua', ucap', rfl⟩ := isOpss_slice hu'
        have HTN := hide hTN; have HPut := hide hput
        have HO := hide ho
        have q1 : g < wr.heap.size := Nat.lt_of_lt_of_le hg hb.size
        have j1 : (k : Int) < (ps.length : Int) := by omega
        clear hTN hput hu hu' e ho a0 a1 a2 a3 a4 a5 a6 hk1 hk2 hk3
        go_wp2_with fail
        refine (unhide HTN _ hb).mono ?_; rintro e w1 ⟨b, b', rfl, hb0, hbs, hbo, hb0', hbs', hbo', hb1⟩
        have d1 := bT hb hb1
        have ho1 := (unhide HO).of hb1
        have hN := unhide HPut w1 ho1 b b' (Nat.lt_of_lt_of_le (unhide HO).size hb0) hbs hbo (Nat.lt_of_lt_of_le (unhide HO).size hb0') hbs' hbo'
        obtain ⟨u0, hu0⟩ := ho1.all (k * 7) (by omega)
        obtain ⟨u1, hu1⟩ := ho1.all (k * 7 + 1) (by omega)
        obtain ⟨u2, hu2⟩ := ho1.all (k * 7 + 2) (by omega)
        obtain ⟨u3, hu3⟩ := ho1.all (k * 7 + 3) (by omega)
        obtain ⟨u4, hu4⟩ := ho1.all (k * 7 + 4) (by omega)
        obtain ⟨u5, hu5⟩ := ho1.all (k * 7 + 5) (by omega)
        obtain ⟨u6, hu6⟩ := ho1.all (k * 7 + 6) (by omega)
        have hf := ho1.frz
        have HN := hide hN
        have HB := hide (putPn_below (g := w.heap.size) (o := k * 7) d1 (Nat.le_refl _) ⟨K, T, M, Ex, Exs, L, R⟩ b b')
        clear hN ho1 hbo hbo' hb1 HO HPut HTN c0 c1 c2 c3 c4 c5 c6 hb0 hb0' hbs hbs'
        go_wp2
        go_roundw
        case rel => exact ⟨k + 1, by omega, by go_num, unhide HN, unhide HB⟩
        case measure => simp [intOf]; omega
      · obtain rfl : k = ps.length := by omega
        rw [List.take_length] at ho
        go_wp2
        go_ret
        exact ⟨_, rfl, Nat.le_refl _, ho, hb⟩

set_option maxHeartbeats 1000000 in
theorem toPlan_calls (v : Value) (ps : List Pn) (w : World) (hv : IsPns w v ps) (hn : ps.length ≤ 1048576) (hk : ∀ p ∈ ps, p.Ex.length ≤ 1048576 ∧ p.Exs.length ≤ 1048576 ∧ bulkO p.Exs ≤ 1048576) :
    Calls Tryz.prog 18 #[.agg #[v]] w fun e w' => ∃ g, e = .returned (.agg #[.slice (some ⟨g, 0, none⟩) ps.length ps.length]) ∧ w.heap.size ≤ g ∧ g < w'.heap.size ∧ PnsAt w' g 0 ps ∧ Below w.heap.size w w' := by
  have TI := fun W (hb : Below w.heap.size w W) => toPNodeS_calls v ps W (hv.of hb) hn hk
  have HT := hide TI
  obtain ⟨a, cap, rfl⟩ := isPns_slice hv
  clear TI hv
  go_enter Tryz.func18, Tryz.ntmps18
  go_wp2_with fail
  refine (unhide HT _ (by (repeat (first | exact Below.refl _ _ | refine bA ?_ _)))).mono ?_; rintro e w1 ⟨g, rfl, hg, ho, hb1⟩
  obtain ⟨hc, hf⟩ := bcell hb1
  have hs1 : w.heap.size + 3 ≤ w1.heap.size := by have := hb1.size; simpa using this
  have hg1 : w.heap.size + 3 ≤ g := by simpa using hg
  have HO := hide ho; have HB := hide (bT (by (repeat (first | exact Below.refl _ _ | refine bA ?_ _))) hb1 : Below w.heap.size w w1)
  clear ho hb1 hg
  go_wp2
  refine bodyPost_ret (v := .agg #[.slice (some ⟨g, 0, none⟩) ps.length ps.length]) (by simp [results, Tryz.results18, go_sem, hc]) rfl ⟨g, rfl, by omega, ?_, ?_, ?_⟩
  · have := (unhide HO).size
    simpa using this
  · exact ((unhide HO).held.far (X := w.heap.size + 1 + 1) (O := 0) (by omega) _).far (X := w.heap.size + 1) (O := 0) (by omega) _
  · exact ((unhide HB).setCell (p := ⟨w.heap.size + 1 + 1, 0, none⟩) (by dsimp only; omega) _).setCell (p := ⟨w.heap.size + 1, 0, none⟩) (by dsimp only; omega) _
end Go.Proofs.YtnchcndcinpalaaGreatDoor
/-
  COPIES OF FLAT PLANS.
-/
namespace Go.Proofs.YtnchcndcinpalaaGreatDoor
open Go Go.RowKit

/-- make([]impl.FNode, n) -/
theorem make_fns (n : Nat) (hn : n ≤ 1048576) (w : World) :
    (Instr.makeSlice 30 (.int .i64 (n : Int)) (.int .i64 (n : Int))).run Tryz.prog w = .ok (.slice (some ⟨w.heap.size, 0, none⟩) n n) (w.alloc (.cells (madeCells #[.int .i64 0, .int .i64 0, .int .i64 0, .int .i64 0, .slice none 0 0, .slice none 0 0, .int .i64 0, .int .i64 0] (n * 8)) 67)) := by
  obtain ⟨i, hi, hz⟩ := Option.map_eq_some_iff.1 (show (Tryz.prog.info? 67).map (fun i => (i.zero, i.size, i.bytes)) = some (some (.agg #[.int .i64 0, .int .i64 0, .int .i64 0, .int .i64 0, .slice none 0 0, .slice none 0 0, .int .i64 0, .int .i64 0]), 8, 96) by kernel_rfl)
  simp only [Prod.mk.injEq] at hz
  have := run_make (P := Tryz.prog) w 30 67 i _ Tryz.underlying30 hi hz.1 .i64 .i64 (n : Int) (n : Int) (by omega) (by omega) (by rw [hz.2.2]; omega) (by omega)
  rw [hz.2.1] at this
  simpa [Value.cells] using this
theorem make_fns0 (w : World) : (Instr.makeSlice 30 (.int .i64 0) (.int .i64 0)).run Tryz.prog w = .ok (.slice (some ⟨w.heap.size, 0, none⟩) 0 0) (w.alloc (.cells #[] 67)) := by
  have := make_fns 0 (by omega) w
  rw [show madeCells #[.int .i64 0, .int .i64 0, .int .i64 0, .int .i64 0, .slice none 0 0, .slice none 0 0, .int .i64 0, .int .i64 0] (0 * 8) = #[] from Array.eq_empty_of_size_eq_zero (by simp [size_madeCells])] at this
  simpa using this

set_option maxHeartbeats 2000000 in
theorem toFNode_calls (K T M Wd L R : Int) (v v' : Value) (xs : List O2) (oss : List (List O2)) (w : World) (hv : IsOps w v xs) (hv' : IsOpss w v' oss) (hn : xs.length ≤ 1048576) (hn' : oss.length ≤ 1048576) (hx : bulkO oss ≤ 1048576) :
    Calls Tryz.prog 61 #[.agg #[.int .i64 K, .int .i64 T, .int .i64 M, .int .i64 Wd, v, v', .int .i64 L, .int .i64 R]] w fun e w' => ∃ b b', e = .returned (.agg #[.int .i64 K, .int .i64 T, .int .i64 M, .int .i64 Wd, .slice (some ⟨b, 0, none⟩) xs.length xs.length, .slice (some ⟨b', 0, none⟩) oss.length oss.length, .int .i64 L, .int .i64 R]) ∧
      w.heap.size ≤ b ∧ b < w'.heap.size ∧ OpsAt w' b 0 xs ∧ w.heap.size ≤ b' ∧ b' < w'.heap.size ∧ OpssAt w' b' oss ∧ Below w.heap.size w w' := by
  have TI := fun W (hb : Below w.heap.size w W) => toOpS_calls v xs W (hv.of hb) hn
  have TJ := fun W (hb : Below w.heap.size w W) => toOpSS_calls v' oss W (hv'.of hb) hn' hx
  have HT := hide TI; have HJ := hide TJ
  obtain ⟨a, cap, rfl⟩ := isOps_slice hv
  obtain ⟨a', cap', rfl⟩ := isOpss_slice hv'
  clear TI TJ hv hv'
  go_enter Tryz.func61, Tryz.ntmps61
  go_wp2_with fail
  refine (unhide HT _ (by (repeat (first | exact Below.refl _ _ | refine bA ?_ _ | refine Below.setCell ?_ (by simp <;> omega) _)))).mono ?_; rintro e w1 ⟨b, rfl, hb0, ho, hb1⟩
  obtain ⟨hc, hf⟩ := bcell hb1
  have hs1 : w.heap.size + 3 ≤ w1.heap.size := by have := hb1.size; simpa using this
  have hbb : w.heap.size + 3 ≤ b := by simpa using hb0
  have d1 : Below w.heap.size w w1 := bT (by (repeat (first | exact Below.refl _ _ | refine bA ?_ _))) hb1
  have HO := hide ho
  clear ho hb1 hb0
  go_wp2_with fail
  refine (unhide HJ _ (d1.setCell (by dsimp only; omega) _)).mono ?_; rintro e w2 ⟨b', rfl, hb0', ho', hb2⟩
  have hs2 : w1.heap.size ≤ w2.heap.size := by have := hb2.size; simpa using this
  have hbb' : w1.heap.size ≤ b' := by simpa using hb0'
  obtain ⟨hc2, hf2⟩ := bcell hb2
  simp only [World.size_setCell] at hc2 hf2
  have d2 : Below w.heap.size w w2 := bT (d1.setCell (by dsimp only; omega) _) hb2
  have hO2 : OpsAt w2 b 0 xs := ((unhide HO).held.far (X := w.heap.size + 1 + 1) (O := 4) (by omega) _).of (by simpa using (unhide HO).size) hb2
  have hsb : b < w2.heap.size := Nat.lt_of_lt_of_le (unhide HO).size hs2
  have HO2 := hide hO2; have HP := hide ho'.held; have HD := hide d2
  have hsb' := ho'.size
  have z1 : w.heap.size < w1.heap.size := by omega
  have z2 : w.heap.size + 1 < w1.heap.size := by omega
  have z3 : w.heap.size + 1 + 1 < w1.heap.size := by omega
  clear hO2 ho' d2 d1 hb2 HO hb0'
  go_wp2
  refine bodyPost_ret (v := .agg #[.int .i64 K, .int .i64 T, .int .i64 M, .int .i64 Wd, .slice (some ⟨b, 0, none⟩) xs.length xs.length, .slice (some ⟨b', 0, none⟩) oss.length oss.length, .int .i64 L, .int .i64 R]) (by simp [results, Tryz.results61, go_sem, hc, hc2, z2]) rfl ⟨b, b', rfl, by omega, by simpa using hsb, ?_, by omega, by simpa using hsb', ?_, ?_⟩
  · (repeat (refine OpsAt.far ?_ (by omega) _))
    exact unhide HO2
  · (repeat (refine OpssAt.far ?_ (by omega) _))
    exact unhide HP
  · (repeat (refine Below.setCell ?_ (by dsimp only; omega) _))
    exact unhide HD

set_option maxHeartbeats 2000000 in
theorem toFNodeS_calls (v : Value) (ps : List Fn) (w : World) (hv : IsFns w v ps) (hn : ps.length ≤ 1048576) (hk : ∀ p ∈ ps, p.Ex.length ≤ 1048576 ∧ p.Exs.length ≤ 1048576 ∧ bulkO p.Exs ≤ 1048576) :
    Calls Tryz.prog 29 #[v] w fun e w' => ∃ g, e = .returned (.slice (some ⟨g, 0, none⟩) ps.length ps.length) ∧ w.heap.size ≤ g ∧ OwnFns w' g ps.length ps ∧ Below w.heap.size w w' := by
  rcases hv with ⟨rfl, a, cap, rfl⟩ | ⟨g, off, cap, rfl, hg, hr⟩
  · have hmk := make_fns0
    clear hn hk
    go_enter Tryz.func29, Tryz.ntmps29
    go_wp2
    go_loopw [4] (fun i wr => i = .int .i64 0 ∧ OwnFns wr w.heap.size 0 [] ∧ Below w.heap.size w wr) (fun _ _ => 0)
    case atStart => exact ⟨rfl, OwnFns.made w 0 #[] _ rfl, bA (Below.refl _ _) _⟩
    case round =>
      obtain ⟨rfl, ho, hb⟩ := hrel
      go_wp2
      go_ret
      exact ⟨_, rfl, Nat.le_refl _, ho, hb⟩
  · have hmk := make_fns ps.length hn
    have hO : Hid (OwnFns (w.alloc (.cells (madeCells #[.int .i64 0, .int .i64 0, .int .i64 0, .int .i64 0, .slice none 0 0, .slice none 0 0, .int .i64 0, .int .i64 0] (ps.length * 8)) 67)) w.heap.size ps.length []) := OwnFns.made w _ _ _ (by simp [size_madeCells])
    have HK := hide hk
    have HR := hide hr
    clear hk hr
    go_enter Tryz.func29, Tryz.ntmps29
    go_wp2
    go_loopw [4] (fun i wr => ∃ k : Nat, k ≤ ps.length ∧ i = .int .i64 k ∧ OwnFns wr w.heap.size ps.length (ps.take k) ∧ Below w.heap.size w wr) (fun i _ => ps.length - (intOf i).toNat)
    case atStart => exact ⟨0, Nat.zero_le _, rfl, by simpa using hO.out, bA (Below.refl _ _) _⟩
    case round =>
      clear hO hmk
      obtain ⟨k, hk, rfl, ho, hb⟩ := hrel
      by_cases hlt : k < ps.length
      · obtain ⟨a0, a1, a2, a3, a6, a7, ⟨u, a4, hu⟩, u', a5, hu'⟩ := (unhide HR) k ps[k] (List.getElem?_eq_getElem hlt)
        have c0 := (hb.cell (p := ⟨g, off + k * 8, none⟩) hg).trans a0
        have c1 := (hb.cell (p := ⟨g, off + k * 8 + 1, none⟩) hg).trans a1
        have c2 := (hb.cell (p := ⟨g, off + k * 8 + 2, none⟩) hg).trans a2
        have c3 := (hb.cell (p := ⟨g, off + k * 8 + 3, none⟩) hg).trans a3
        have c4 := (hb.cell (p := ⟨g, off + k * 8 + 4, none⟩) hg).trans a4
        have c5 := (hb.cell (p := ⟨g, off + k * 8 + 5, none⟩) hg).trans a5
        have c6 := (hb.cell (p := ⟨g, off + k * 8 + 6, none⟩) hg).trans a6
        have c7 := (hb.cell (p := ⟨g, off + k * 8 + 7, none⟩) hg).trans a7
        obtain ⟨hk1, hk2, hk3⟩ := unhide HK _ (List.getElem_mem hlt)
        have hput := fun (w1 : World) (h : OwnFns w1 w.heap.size ps.length (ps.take k)) b b' h1 h2 h3 h4 h5 h6 => h.put hlt hlt b b' h1 h2 h3 h4 h5 h6
        have hTN := fun W (hbW : Below w.heap.size w W) => toFNode_calls (ps[k]).K (ps[k]).T (ps[k]).M (ps[k]).W (ps[k]).L (ps[k]).R u u' (ps[k]).Ex (ps[k]).Exs W (hu.of hbW) (hu'.of hbW) hk1 hk2 hk3
        cases e : ps[k] with | mk K T M Wd Ex Exs L R =>
        rw [e] at c0 c1 c2 c3 c6 c7 hput hTN hu hu'
        simp only at c0 c1 c2 c3 c6 c7 hput hTN hu hu'
        obtain ⟨ua, ucap, rfl⟩ := isOps_slice hu
        obtain ⟨ua', ucap', rfl⟩ := isOpss_slice hu'
        have HTN := hide hTN; have HPut := hide hput
        have HO := hide ho
        have q1 : g < wr.heap.size := Nat.lt_of_lt_of_le hg hb.size
        have j1 : (k : Int) < (ps.length : Int) := by omega
        clear hTN hput hu hu' e ho a0 a1 a2 a3 a4 a5 a6 a7 hk1 hk2 hk3
        go_wp2_with fail
        refine (unhide HTN _ hb).mono ?_; rintro e w1 ⟨b, b', rfl, hb0, hbs, hbo, hb0', hbs', hbo', hb1⟩
        have d1 := bT hb hb1
        have ho1 := (unhide HO).of hb1
        have hN := unhide HPut w1 ho1 b b' (Nat.lt_of_lt_of_le (unhide HO).size hb0) hbs hbo (Nat.lt_of_lt_of_le (unhide HO).size hb0') hbs' hbo'
        obtain ⟨u0, hu0⟩ := ho1.all (k * 8) (by omega)
        obtain ⟨u1, hu1⟩ := ho1.all (k * 8 + 1) (by omega)
        obtain ⟨u2, hu2⟩ := ho1.all (k * 8 + 2) (by omega)
        obtain ⟨u3, hu3⟩ := ho1.all (k * 8 + 3) (by omega)
        obtain ⟨u4, hu4⟩ := ho1.all (k * 8 + 4) (by omega)
        obtain ⟨u5, hu5⟩ := ho1.all (k * 8 + 5) (by omega)
        obtain ⟨u6, hu6⟩ := ho1.all (k * 8 + 6) (by omega)
        obtain ⟨u7, hu7⟩ := ho1.all (k * 8 + 7) (by omega)
        have hf := ho1.frz
        have HN := hide hN
        have HB := hide (putFn_below (g := w.heap.size) (o := k * 8) d1 (Nat.le_refl _) ⟨K, T, M, Wd, Ex, Exs, L, R⟩ b b')
        clear hN ho1 hbo hbo' hb1 HO HPut HTN c0 c1 c2 c3 c4 c5 c6 c7 hb0 hb0' hbs hbs'
        go_wp2
        go_roundw
        case rel => exact ⟨k + 1, by omega, by go_num, unhide HN, unhide HB⟩
        case measure => simp [intOf]; omega
      · obtain rfl : k = ps.length := by omega
        rw [List.take_length] at ho
        go_wp2
        go_ret
        exact ⟨_, rfl, Nat.le_refl _, ho, hb⟩

set_option maxHeartbeats 1000000 in
theorem toFlat_calls (v : Value) (Rt : Int) (ps : List Fn) (w : World) (hv : IsFns w v ps) (hn : ps.length ≤ 1048576) (hk : ∀ p ∈ ps, p.Ex.length ≤ 1048576 ∧ p.Exs.length ≤ 1048576 ∧ bulkO p.Exs ≤ 1048576) :
    Calls Tryz.prog 8 #[.agg #[v, .int .i64 Rt]] w fun e w' => ∃ g, e = .returned (.agg #[.slice (some ⟨g, 0, none⟩) ps.length ps.length, .int .i64 Rt]) ∧ w.heap.size ≤ g ∧ g < w'.heap.size ∧ FnsAt w' g 0 ps ∧ Below w.heap.size w w' := by
  have TI := fun W (hb : Below w.heap.size w W) => toFNodeS_calls v ps W (hv.of hb) hn hk
  have HT := hide TI
  obtain ⟨a, cap, rfl⟩ := isFns_slice hv
  clear TI hv
  go_enter Tryz.func8, Tryz.ntmps8
  go_wp2_with fail
  refine (unhide HT _ (by (repeat (first | exact Below.refl _ _ | refine bA ?_ _)))).mono ?_; rintro e w1 ⟨g, rfl, hg, ho, hb1⟩
  obtain ⟨hc, hf⟩ := bcell hb1
  have hs1 : w.heap.size + 3 ≤ w1.heap.size := by have := hb1.size; simpa using this
  have hg1 : w.heap.size + 3 ≤ g := by simpa using hg
  have HO := hide ho; have HB := hide (bT (by (repeat (first | exact Below.refl _ _ | refine bA ?_ _))) hb1 : Below w.heap.size w w1)
  clear ho hb1 hg
  go_wp2
  refine bodyPost_ret (v := .agg #[.slice (some ⟨g, 0, none⟩) ps.length ps.length, .int .i64 Rt]) (by simp [results, Tryz.results8, go_sem, hc]) rfl ⟨g, rfl, by omega, ?_, ?_, ?_⟩
  · have := (unhide HO).size
    simpa using this
  · (repeat (refine FnsAt.far ?_ (by omega) _))
    exact (unhide HO).held
  · (repeat (refine Below.setCell ?_ (by dsimp only; omega) _))
    exact unhide HB
end Go.Proofs.YtnchcndcinpalaaGreatDoor
