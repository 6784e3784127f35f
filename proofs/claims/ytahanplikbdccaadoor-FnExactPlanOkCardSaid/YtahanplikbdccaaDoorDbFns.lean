/-
  COPIES OF TABLES.
-/
import Derived.Test.YtahanplikbdccaaDoorDbKit
import Derived.Test.YtahanplikbdccaaDoorGridFns
import Derived.Test.YtahanplikbdccaaDoorGridFns2
import Derived.OwnWalk
namespace Go.Proofs.YtahanplikbdccaaDoor
open Go Go.RowKit

/-- make([]impl.Table, n) -/
theorem make_tables (n : Nat) (hn : n ≤ 1048576) (w : World) :
    (Instr.makeSlice 27 (.int .i64 (n : Int)) (.int .i64 (n : Int))).run Tryd.prog w = .ok (.slice (some ⟨w.heap.size, 0, none⟩) n n) (w.alloc (.cells (madeCells #[.string ByteArray.empty, .int .i64 0, .slice none 0 0] (n * 3)) 49)) := by
  obtain ⟨i, hi, hz⟩ := Option.map_eq_some_iff.1 (show (Tryd.prog.info? 49).map (fun i => (i.zero, i.size, i.bytes)) = some (some (.agg #[.string ByteArray.empty, .int .i64 0, .slice none 0 0]), 3, 48) by kernel_rfl)
  simp only [Prod.mk.injEq] at hz
  have := run_make (P := Tryd.prog) w 27 49 i _ Tryd.underlying27 hi hz.1 .i64 .i64 (n : Int) (n : Int) (by omega) (by omega) (by rw [hz.2.2]; omega) (by omega)
  rw [hz.2.1] at this
  simpa [Value.cells] using this
theorem make_tables0 (w : World) : (Instr.makeSlice 27 (.int .i64 0) (.int .i64 0)).run Tryd.prog w = .ok (.slice (some ⟨w.heap.size, 0, none⟩) 0 0) (w.alloc (.cells #[] 49)) := by
  have := make_tables 0 (by omega) w
  rw [show madeCells #[.string ByteArray.empty, .int .i64 0, .slice none 0 0] (0 * 3) = #[] from Array.eq_empty_of_size_eq_zero (by simp [size_madeCells])] at this
  simpa using this
theorem isRows_slice {w : World} {v : Value} {xss : List (List V2)} (hv : IsRows w v xss) : ∃ a cap, v = .slice a xss.length cap := by
  rcases hv with ⟨rfl, a, cap, rfl⟩ | ⟨g, off, cap, rfl, _⟩
  · exact ⟨a, cap, rfl⟩
  · exact ⟨_, cap, rfl⟩
theorem isTables_slice {w : World} {v : Value} {ts : List Tb} (hv : IsTables w v ts) : ∃ a cap, v = .slice a ts.length cap := by
  rcases hv with ⟨rfl, a, cap, rfl⟩ | ⟨g, off, cap, rfl, _⟩
  · exact ⟨a, cap, rfl⟩
  · exact ⟨_, cap, rfl⟩

set_option maxHeartbeats 1000000 in
theorem toTable_calls (S : ByteArray) (C : Int) (v : Value) (xss : List (List V2)) (w : World) (hv : IsRows w v xss) (hn : xss.length ≤ 1048576) (hx : bulk xss ≤ 1048576) :
    Calls Tryd.prog 37 #[.agg #[.string S, .int .i64 C, v]] w fun e w' => ∃ G, e = .returned (.agg #[.string S, .int .i64 C, .slice (some ⟨G, 0, none⟩) xss.length xss.length]) ∧ w.heap.size ≤ G ∧ (∀ g, g < w.heap.size → MadeRows w' g G xss) ∧ Below w.heap.size w w' := by
  have TI := fun W (hb : Below w.heap.size w W) => toValSS_calls v xss W (hv.of hb) hn hx
  have HT := hide TI
  obtain ⟨a, cap, rfl⟩ := isRows_slice hv
  clear TI hv
  go_enter Tryd.func37, Tryd.ntmps37
  go_wp2_with fail
  refine (unhide HT _ (by (repeat (first | exact Below.refl _ _ | refine bA ?_ _ | refine Below.setCell ?_ (by simp <;> omega) _)))).mono ?_; rintro e w1 ⟨G, rs, rfl, hm, hG, hog, hro, hrl, _, hb1⟩
  obtain ⟨hc, hf⟩ := bcell hb1
  have hs1 : w.heap.size + 3 ≤ w1.heap.size := by have := hb1.size; simpa using this
  have hG1 : w.heap.size + 3 ≤ G := by simpa using hG
  have hMR : ∀ g, g < w.heap.size + 3 → MadeRows w1 g G xss := fun g hg => ⟨by omega, hog.size, rs, hm, hog.held, hro, fun r hr => (hrl r hr).1⟩
  have HO := hide hMR; have HB := hide (bT (by (repeat (first | exact Below.refl _ _ | refine bA ?_ _))) hb1 : Below w.heap.size w w1)
  clear hMR hb1 hG hm hog hro hrl
  go_wp2
  refine bodyPost_ret (v := .agg #[.string S, .int .i64 C, .slice (some ⟨G, 0, none⟩) xss.length xss.length]) (by simp [results, Tryd.results37, go_sem, hc]) rfl ⟨G, rfl, by omega, ?_, ?_⟩
  · intro g hg
    have h2 := ((((unhide HO (w.heap.size + 1 + 1) (by omega)).far (X := w.heap.size + 1 + 1) (O := 2) (by omega) (.slice (some ⟨G, 0, none⟩) xss.length xss.length)).far (X := w.heap.size + 1) (O := 0) (by omega) (.string S)).far (X := w.heap.size + 1) (O := 1) (by omega) (.int .i64 C)).far (X := w.heap.size + 1) (O := 2) (by omega) (.slice (some ⟨G, 0, none⟩) xss.length xss.length)
    exact ⟨by omega, h2.2.1, h2.2.2⟩
  · exact ((((unhide HB).setCell (p := ⟨w.heap.size + 1 + 1, 2, none⟩) (by dsimp only; omega) _).setCell (p := ⟨w.heap.size + 1, 0, none⟩) (by dsimp only; omega) _).setCell (p := ⟨w.heap.size + 1, 1, none⟩) (by dsimp only; omega) _).setCell (p := ⟨w.heap.size + 1, 2, none⟩) (by dsimp only; omega) _

set_option maxHeartbeats 2000000 in
theorem toTableS_calls (v : Value) (ts : List Tb) (w : World) (hv : IsTables w v ts) (hn : ts.length ≤ 1048576) (hk : ∀ t ∈ ts, t.Rows.length ≤ 1048576 ∧ bulk t.Rows ≤ 1048576) :
    Calls Tryd.prog 21 #[v] w fun e w' => ∃ g, e = .returned (.slice (some ⟨g, 0, none⟩) ts.length ts.length) ∧ w.heap.size ≤ g ∧ OwnTables w' g ts.length ts ∧ Below w.heap.size w w' := by
  rcases hv with ⟨rfl, a, cap, rfl⟩ | ⟨g, off, cap, rfl, hg, hr⟩
  · have hmk := make_tables0
    clear hn hk
    go_enter Tryd.func21, Tryd.ntmps21
    go_wp2
    go_loopw [4] (fun i wr => i = .int .i64 0 ∧ OwnTables wr w.heap.size 0 [] ∧ Below w.heap.size w wr) (fun _ _ => 0)
    case atStart => exact ⟨rfl, OwnTables.made w 0 #[] _ rfl, bA (Below.refl _ _) _⟩
    case round =>
      obtain ⟨rfl, ho, hb⟩ := hrel
      go_wp2
      go_ret
      exact ⟨_, rfl, Nat.le_refl _, ho, hb⟩
  · have hmk := make_tables ts.length hn
    have hO : Hid (OwnTables (w.alloc (.cells (madeCells #[.string ByteArray.empty, .int .i64 0, .slice none 0 0] (ts.length * 3)) 49)) w.heap.size ts.length []) := OwnTables.made w _ _ _ (by simp [size_madeCells])
    have HK := hide hk
    have HR := hide hr
    clear hk hr
    go_enter Tryd.func21, Tryd.ntmps21
    go_wp2
    go_loopw [4] (fun i wr => ∃ k : Nat, k ≤ ts.length ∧ i = .int .i64 k ∧ OwnTables wr w.heap.size ts.length (ts.take k) ∧ Below w.heap.size w wr) (fun i _ => ts.length - (intOf i).toNat)
    case atStart => exact ⟨0, Nat.zero_le _, rfl, by simpa using hO.out, bA (Below.refl _ _) _⟩
    case round =>
      clear hO hmk
      obtain ⟨k, hk, rfl, ho, hb⟩ := hrel
      by_cases hlt : k < ts.length
      · obtain ⟨c0w, c1w, u, hu, hiu⟩ := (unhide HR) k ts[k] (List.getElem?_eq_getElem hlt)
        have c0 := (hb.cell (p := ⟨g, off + k * 3, none⟩) hg).trans c0w
        have c1 := (hb.cell (p := ⟨g, off + k * 3 + 1, none⟩) hg).trans c1w
        have c2 := (hb.cell (p := ⟨g, off + k * 3 + 2, none⟩) hg).trans hu
        obtain ⟨hkl, hkb⟩ := unhide HK _ (List.getElem_mem hlt)
        have hput := fun (w1 : World) (h : OwnTables w1 w.heap.size ts.length (ts.take k)) G h1 => h.put hlt hlt G h1
        have hTN := fun W (hbW : Below w.heap.size w W) => toTable_calls (ts[k]).Name (ts[k]).Cols u (ts[k]).Rows W (hiu.of hbW) hkl hkb
        cases e : ts[k] with | mk S C xss =>
        rw [e] at c0 c1 hput hTN hiu hkl hkb
        simp only at c0 c1 hput hTN hiu hkl hkb
        obtain ⟨ua, ucap, rfl⟩ := isRows_slice hiu
        have HTN := hide hTN; have HPut := hide hput
        have HO := hide ho
        have q1 : g < wr.heap.size := Nat.lt_of_lt_of_le hg hb.size
        have j1 : (k : Int) < (ts.length : Int) := by omega
        clear hTN hput hu hiu e ho c0w c1w
        go_wp2_with fail
        refine (unhide HTN _ hb).mono ?_; rintro e w1 ⟨G, rfl, hG, hoi, hb1⟩
        have d1 := bT hb hb1
        have ho1 := (unhide HO).of hb1
        have hN := unhide HPut w1 ho1 G (hoi _ (unhide HO).size)
        obtain ⟨u0, hu0⟩ := ho1.all (k * 3) (by omega)
        obtain ⟨u1, hu1⟩ := ho1.all (k * 3 + 1) (by omega)
        obtain ⟨u2, hu2⟩ := ho1.all (k * 3 + 2) (by omega)
        have hf := ho1.frz
        have HN := hide hN
        have HB := hide (putTable_below (g := w.heap.size) (o := k * 3) d1 (Nat.le_refl _) ⟨S, C, xss⟩ G)
        clear hN ho1 hoi hb1 HO HPut HTN c0 c1 c2 hG
        go_wp2
        go_roundw
        case rel => exact ⟨k + 1, by omega, by go_num, unhide HN, unhide HB⟩
        case measure => simp [intOf]; omega
      · obtain rfl : k = ts.length := by omega
        rw [List.take_length] at ho
        go_wp2
        go_ret
        exact ⟨_, rfl, Nat.le_refl _, ho, hb⟩

set_option maxHeartbeats 1000000 in
theorem toDb_calls (v : Value) (ts : List Tb) (w : World) (hv : IsTables w v ts) (hn : ts.length ≤ 1048576) (hk : ∀ t ∈ ts, t.Rows.length ≤ 1048576 ∧ bulk t.Rows ≤ 1048576) :
    Calls Tryd.prog 8 #[.agg #[v]] w fun e w' => ∃ g, e = .returned (.agg #[.slice (some ⟨g, 0, none⟩) ts.length ts.length]) ∧ w.heap.size ≤ g ∧ g < w'.heap.size ∧ TablesAt w' g 0 ts ∧ Below w.heap.size w w' := by
  have TI := fun W (hb : Below w.heap.size w W) => toTableS_calls v ts W (hv.of hb) hn hk
  have HT := hide TI
  obtain ⟨a, cap, rfl⟩ := isTables_slice hv
  clear TI hv
  go_enter Tryd.func8, Tryd.ntmps8
  go_wp2_with fail
  refine (unhide HT _ (by (repeat (first | exact Below.refl _ _ | refine bA ?_ _)))).mono ?_; rintro e w1 ⟨g, rfl, hg, ho, hb1⟩
  obtain ⟨hc, hf⟩ := bcell hb1
  have hs1 : w.heap.size + 3 ≤ w1.heap.size := by have := hb1.size; simpa using this
  have hg1 : w.heap.size + 3 ≤ g := by simpa using hg
  have HO := hide ho; have HB := hide (bT (by (repeat (first | exact Below.refl _ _ | refine bA ?_ _))) hb1 : Below w.heap.size w w1)
  clear ho hb1 hg
  go_wp2
  refine bodyPost_ret (v := .agg #[.slice (some ⟨g, 0, none⟩) ts.length ts.length]) (by simp [results, Tryd.results8, go_sem, hc]) rfl ⟨g, rfl, by omega, ?_, ?_, ?_⟩
  · have := (unhide HO).size
    simpa using this
  · exact ((unhide HO).held.far (X := w.heap.size + 1 + 1) (O := 0) (by omega) _).far (X := w.heap.size + 1) (O := 0) (by omega) _
  · exact ((unhide HB).setCell (p := ⟨w.heap.size + 1 + 1, 0, none⟩) (by dsimp only; omega) _).setCell (p := ⟨w.heap.size + 1, 0, none⟩) (by dsimp only; omega) _
end Go.Proofs.YtahanplikbdccaaDoor
