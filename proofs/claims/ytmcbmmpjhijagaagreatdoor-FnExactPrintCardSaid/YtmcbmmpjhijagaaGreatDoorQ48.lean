import Derived.Test.YtmcbmmpjhijagaaGreatDoorQ46
import Derived.Test.YtmcbmmpjhijagaaGreatDoorQ47
import Derived.Deep.Slices
import Derived.ProofKit
import Derived.OpenShut
namespace Go.Proofs.YtmcbmmpjhijagaaGreatDoor
open Go Go.RowKit
set_option maxRecDepth 100000 in
set_option maxHeartbeats 2000000 in
theorem lawPrint_calls (v : Value) (ns : List Nd) (w : World) (hv : IsNodes w v ns) (hl : ns.length ≤ maxLen) (hf : Fits ns) (hTK : TKw w) (hTR : TRules w) (hTP : TP w) (h8 : 8 ≤ w.heap.size) :
    Calls Tryz.prog 3 #[.agg #[v]] w fun e w' => e = .returned (.bool true) ∧ Below w.heap.size w w' := by
  have SZ := fun W (hb : Below w.heap.size w W) => szAst_calls v ns 1048576 W (hv.of hb) hl hf (by omega) (by omega)
  have HV := hide hv
  obtain ⟨a, cap, rfl⟩ : ∃ a cap, v = .slice a ns.length cap := by
    rcases hv with ⟨rfl, a, cap, rfl⟩ | ⟨g, off, cap, rfl, _⟩
    · exact ⟨a, cap, rfl⟩
    · exact ⟨_, cap, rfl⟩
  clear hv hf
  by_cases c1 : (1048576 : Int) < ((ns.length + bulkN ns : Nat) : Int)
  · have ez : szr 1048576 (ns.length + bulkN ns) = -1 := by unfold szr; rw [if_pos c1]
    rw [ez] at SZ
    have HS := hide SZ
    clear SZ ez hTK hTR hTP hl c1
    go_enter Tryz.func3, Tryz.ntmps3
    go_wp2_with fail
    refine (unhide HS _ (bA (Below.refl _ _) _)).mono ?_; rintro e w1 ⟨rfl, hb1⟩
    go_wp2
    go_ret
    exact ⟨rfl, bT (bA (Below.refl _ _) _) hb1⟩
  have ez : szr 1048576 (ns.length + bulkN ns) = 1048576 - ((ns.length + bulkN ns : Nat) : Int) := by unfold szr; rw [if_neg c1]
  rw [ez] at SZ
  obtain ⟨z, hz⟩ : ∃ z : Int, 1048576 - ((ns.length + bulkN ns : Nat) : Int) = z := ⟨_, rfl⟩
  rw [hz] at SZ
  have hz0 : ¬ z < 0 := by omega
  have hn1 : ns.length ≤ 1048576 := by omega
  have hsm : Small ns := small_of (by omega)
  have hkb : ∀ n ∈ ns, n.Kids.length ≤ 1048576 := fun n hn => (hsm n hn).2.2
  have TA := fun W (hb : Below w.heap.size w W) => toAst_calls (.slice a ns.length cap) ns W ((unhide HV).of hb) hn1 hkb
  have SA := fun g c W h1 h2 => sPrint_calls ns g c W h1 h2 hn1 hsm
  have IA := fun g c W h1 h2 (hb : Below w.heap.size w W) => Print_calls ns g c W h1 h2 hn1 hsm (hTK.of hb) (hTR.of hb) (hTP.of h8 hb) (by have := hb.size; omega)
  have EA := fun g g' c c' W h1 h2 h3 h4 => eqAst_calls ns g g' c c' W h1 h2 h3 h4 hn1 hkb
  generalize ptx ns = E at *
  have HSZ := hide SZ; have HTA := hide TA; have HSA := hide SA; have HIA := hide IA; have HEA := hide EA
  clear SZ TA SA IA EA hsm hkb ez hz hTK hTR hTP c1 hl HV hn1
  · skip
    go_enter Tryz.func3, Tryz.ntmps3
    go_wp2_with fail
    refine (unhide HSZ _ (bA (Below.refl _ _) _)).mono ?_; rintro e w1 ⟨rfl, hb1⟩
    have d1 := bT (bA (Below.refl w.heap.size w) _) hb1
    have ba1 : w1.cell? ⟨w.heap.size, 0, none⟩ = some (.slice a ns.length cap) := (hb1.cell (p := ⟨w.heap.size, 0, none⟩) (by simp)).trans (by simp [go_sem])
    have s1 : w.heap.size < w1.heap.size := by have := hb1.size; simp at this; omega
    clear hb1
    go_wp2_with fail
    refine (unhide HTA _ d1).mono ?_; rintro e w2 ⟨g2, rfl, hg2, hs2, hn2, hb2⟩
    have d2 := bT d1 hb2
    have ba2 := (hb2.cell (p := ⟨w.heap.size, 0, none⟩) s1).trans ba1
    have s2 : w.heap.size < w2.heap.size := Nat.lt_of_lt_of_le s1 hb2.size
    clear hb2 ba1
    go_wp2_with fail
    refine (unhide HSA g2 _ w2 hs2 hn2).mono ?_; rintro e w3 ⟨rfl, hb3⟩
    have d3 := bT d2 hb3
    have ba3 := (hb3.cell (p := ⟨w.heap.size, 0, none⟩) s2).trans ba2
    have s3 : w.heap.size < w3.heap.size := Nat.lt_of_lt_of_le s2 hb3.size
    clear hb3 ba2 hn2 hs2 hg2
    go_wp2_with fail
    refine (unhide HTA _ d3).mono ?_; rintro e w4 ⟨g4, rfl, hg4, hs4, hn4, hb4⟩
    have d4 := bT d3 hb4
    have ba4 := (hb4.cell (p := ⟨w.heap.size, 0, none⟩) s3).trans ba3
    have s4 : w.heap.size < w4.heap.size := Nat.lt_of_lt_of_le s3 hb4.size
    clear hb4 ba3 hg4
    go_wp2_with fail
    refine (unhide HIA g4 _ _ (by simp; omega) (hn4.of hs4 (bA (Below.refl _ _) _)) (bA d4 _)).mono ?_; rintro e w5 ⟨rfl, hb5⟩
    have d5 := bT (bA d4 _) hb5
    have ba5 : w5.cell? ⟨w.heap.size, 0, none⟩ = some (.slice a ns.length cap) := (hb5.cell (p := ⟨w.heap.size, 0, none⟩) (by simp; omega)).trans ((((Below.refl w4.heap.size w4).alloc (Nat.le_refl _) _).cell (p := ⟨w.heap.size, 0, none⟩) s4).trans ba4)
    have bx5 : w5.cell? ⟨w4.heap.size, 0, none⟩ = some (.slice (some ⟨g4, 0, none⟩) ns.length ns.length) := (hb5.cell (p := ⟨w4.heap.size, 0, none⟩) (by simp)).trans (by simp [go_sem])
    have s5 : w4.heap.size < w5.heap.size := by have := hb5.size; simp at this; omega
    have hn5 : NodesAt w5 g4 0 ns := hn4.of hs4 (bT (bA (Below.refl _ _) _) hb5)
    have hs5 : g4 < w5.heap.size := by omega
    have sA : w.heap.size < w5.heap.size := by omega
    have HN5 := hide hn5
    generalize w4.heap.size = B5 at *
    clear hn4 hs4 hb5 ba4 d4 hn5
    go_upto_region 10 with fail
    have RT : Hid (∀ W, Std w5 W → Calls Tryz.prog 6 #[.agg #[.slice a ns.length cap]] W fun e w' => ∃ g, e = .returned (.agg #[.slice (some ⟨g, 0, none⟩) ns.length ns.length]) ∧ W.heap.size ≤ g ∧ g < w'.heap.size ∧ NodesAt w' g 0 ns ∧ Below W.heap.size W w') := fun W h => unhide HTA W (bT d5 h.2.2)
    have RE : Hid (∀ W g', Std w5 W → g' < W.heap.size → NodesAt W g' 0 ns → Calls Tryz.prog 8 #[.agg #[.slice (some ⟨g4, 0, none⟩) ns.length ns.length], .agg #[.slice (some ⟨g', 0, none⟩) ns.length ns.length]] W fun e w' => e = .returned (.bool true) ∧ Below W.heap.size W w') :=
      fun W g' h h1 h2 => unhide HEA g4 g' _ _ W (Nat.lt_of_lt_of_le hs5 h.2.2.size) h1 ((unhide HN5).of hs5 h.2.2) h2
    go_region_held3 (Std w5) (repeat (first | with_reducible assumption | with_reducible exact Std.refl _ | with_reducible refine Std.drew ?_ | with_reducible refine Std.alloc ?_ _ | with_reducible refine Std.setCell ?_ ?_ _ | with_reducible refine Std.call ?_ (by with_reducible assumption) | (simp <;> omega) | omega)) (first
      | (go_at_call 6; refine (unhide RT _ (by assumption)).mono ?_; rintro e w6 ⟨g6, rfl, hg6, hs6, hn6, hb6⟩)
      | (go_at_call 8; refine (unhide RE _ _ (by assumption) (by assumption) (by assumption)).mono ?_; rintro e w7 ⟨rfl, hb7⟩))
    have hS : Std w5 w7 := by assumption
    go_wp2
    go_ret
    exact ⟨rfl, bT d5 hS.2.2⟩
end Go.Proofs.YtmcbmmpjhijagaaGreatDoor
namespace Go.Proofs.YtmcbmmpjhijagaaGreatDoor
open Go Go.RowKit Go.Deep Go.WideShapes Go.ChangeShapes
theorem add_plainN (g off i : Nat) : (⟨g, off, none⟩ : Addr).add i = ⟨g, off + i, none⟩ := by
  unfold Addr.add
  by_cases h : i = 0 <;> simp [h]
theorem ints_of_cells {H : Type} {enc : TypeId × Value → H} {w : World} {cs : List Value} {fuel : Nat} {x : DataW H × List MemPlace}
    (h : DataW.trod enc Tryz.prog w 0 (fun _ => true) true fuel 47 cs = some x) : ∃ v xs, cs = [v] ∧ IsInts w v xs ∧ xs.length ≤ maxLen := by
  rcases open_ints Tryz.underlying47 Tryz.underlying3 (by kernel_rfl) h with ⟨rfl, _⟩ | ⟨a, len, cap, zs, rfl, _, hl, hm, hz, _, hcell, _⟩
  · exact ⟨_, [], rfl, Or.inl ⟨rfl, none, 0, rfl⟩, by simp⟩
  simp only [if_true] at hz
  by_cases h0 : len = 0
  · subst h0
    exact ⟨_, [], rfl, Or.inl ⟨rfl, _, _, rfl⟩, by simp⟩
  obtain ⟨g, off, spot⟩ := a
  have hspot : spot = none := by simpa [Addr.add] using World.cell?_spot (hcell 0 (by omega))
  subst hspot
  have hlen : (zs.take len).length = len := by simp; omega
  refine ⟨_, zs.take len, rfl, Or.inr ⟨g, off, cap, by rw [hlen], by rw [hlen]; exact hl, ?_, fun i x hx => ?_⟩, by rw [hlen]; omega⟩
  · exact World.block_lt_of_cell? w ⟨g, off + 0, none⟩ (by have := hcell 0 (by omega); rw [add_plainN] at this; exact this)
  · have hi := (List.getElem?_eq_some_iff.1 hx).1
    rw [hlen] at hi
    have := hcell i (by omega)
    rw [add_plainN] at this
    rw [this]
    rw [List.getElem?_take, if_pos hi] at hx
    rw [List.getD_eq_getElem?_getD, hx]
    rfl
theorem six {α : Type} : ∀ {l : List α}, l.length = 6 → ∃ a b c d e f, l = [a, b, c, d, e, f]
  | [a, b, c, d, e, f], _ => ⟨a, b, c, d, e, f, rfl⟩
theorem one {α : Type} : ∀ {l : List α}, l.length = 1 → ∃ a, l = [a]
  | [a], _ => ⟨a, rfl⟩
set_option maxRecDepth 100000 in
theorem nodes_of_cells {H : Type} {enc : TypeId × Value → H} {w : World} {cs : List Value} {fuel : Nat} {x : DataW H × List MemPlace}
    (h : DataW.trod enc Tryz.prog w 0 (fun _ => true) true fuel 22 cs = some x) : ∃ v ns, cs = [v] ∧ IsNodes w v ns ∧ ns.length ≤ maxLen ∧ Fits ns := by
  have ce : Tryz.prog.cellsOf 49 = 6 := by kernel_rfl
  have ci : Tryz.prog.cellsOf 3 = 1 := by kernel_rfl
  have cj : Tryz.prog.cellsOf 2 = 1 := by kernel_rfl
  have cS : Tryz.prog.cellsOf 9 = 1 := by kernel_rfl
  have cK : Tryz.prog.cellsOf 47 = 1 := by kernel_rfl
  rcases open_slice Tryz.underlying22 h with ⟨rfl, _⟩ | ⟨a, len, cap, m, n, D, Pl, rfl, _, hl, hm, hmm, _, hx⟩
  · exact ⟨_, [], rfl, Or.inl ⟨rfl, none, 0, rfl⟩, by simp, fun n hn => by simp at hn⟩
  simp only [if_true] at hmm
  subst hmm
  have each : ∀ i, i < len → ∃ nd : Nd, (w.cell? (a.add (i * 6)) = some (.int .i64 nd.K) ∧ w.cell? (a.add (i * 6 + 1)) = some (.int .i64 nd.N) ∧ w.cell? (a.add (i * 6 + 2)) = some (.int .i64 nd.M) ∧ w.cell? (a.add (i * 6 + 3)) = some (.string nd.S) ∧ w.cell? (a.add (i * 6 + 4)) = some (.string nd.T) ∧
      ∃ u, w.cell? (a.add (i * 6 + 5)) = some u ∧ IsInts w u nd.Kids) ∧ nd.S.size ≤ maxLen ∧ nd.T.size ≤ maxLen ∧ nd.Kids.length ≤ maxLen := fun i hi => by
    obtain ⟨cs', h1, h2⟩ := hx i (by omega)
    rw [ce] at h1
    obtain ⟨_, hlen, hcell⟩ := World.cells?_some h1
    obtain ⟨xs, k, hk, hxy, _, hxl, hf⟩ := DataW.trod_struct Tryz.underlying49 h2
    obtain ⟨y0, y1, y2, y3, y4, y5, rfl⟩ := six (show xs.length = 6 from hxl)
    obtain ⟨v0, v1, v2, v3, v4, v5, rfl⟩ := six hlen
    have g0 := hf 0 _ rfl
    have g1 := hf 1 _ rfl
    have g2 := hf 2 _ rfl
    have g3 := hf 3 _ rfl
    have g4 := hf 4 _ rfl
    have g5 := hf 5 _ rfl
    simp [ci, cj, cS, cK] at g0 g1 g2 g3 g4 g5
    have e0 := hcell 0 (by omega)
    have e1 := hcell 1 (by omega)
    have e2 := hcell 2 (by omega)
    have e3 := hcell 3 (by omega)
    have e4 := hcell 4 (by omega)
    have e5 := hcell 5 (by omega)
    rw [add_add] at e0 e1 e2 e3 e4 e5
    obtain ⟨z0, q0, _, _⟩ := DataW.trod_int Tryz.underlying3 g0
    obtain ⟨z1, q1, _, _⟩ := DataW.trod_int Tryz.underlying2 g1
    obtain ⟨z2, q2, _, _⟩ := DataW.trod_int Tryz.underlying3 g2
    obtain ⟨s3, q3, _, b3⟩ := DataW.trod_string Tryz.underlying9 g3
    obtain ⟨s4, q4, _, b4⟩ := DataW.trod_string Tryz.underlying9 g4
    obtain ⟨u, ks, q5, hu, hkl⟩ := ints_of_cells g5
    simp only [List.cons.injEq, and_true] at q0 q1 q2 q3 q4 q5
    subst q0 q1 q2 q3 q4 q5
    exact ⟨⟨z0, z1, z2, s3, s4, ks⟩, ⟨by simpa using e0, by simpa using e1, by simpa using e2, by simpa using e3, by simpa using e4, _, by simpa using e5, hu⟩, b3, b4, hkl⟩
  obtain ⟨f, hf⟩ := @choose_lt Nd ⟨⟨0, 0, 0, ByteArray.empty, ByteArray.empty, []⟩⟩ _ _ each
  by_cases h0 : len = 0
  · subst h0
    exact ⟨_, [], rfl, Or.inl ⟨rfl, _, _, rfl⟩, by simp, fun n hn => by simp at hn⟩
  obtain ⟨g, off, spot⟩ := a
  have hspot : spot = none := by simpa [Addr.add] using World.cell?_spot (hf 0 (by omega)).1.1
  subst hspot
  refine ⟨_, (List.range len).map f, rfl, Or.inr ⟨g, off, m, by simp, ?_, ?_⟩, by simp; omega, fun n hn => ?_⟩
  · exact World.block_lt_of_cell? w ⟨g, off + 0 * 6, none⟩ (by have := (hf 0 (by omega)).1.1; rw [add_plainN] at this; exact this)
  · intro i nd hx'
    have hi : i < len := by have := (List.getElem?_eq_some_iff.1 hx').1; simpa using this
    have e : f i = nd := by simpa [hi] using hx'
    obtain ⟨⟨d0, d1, d2, d3, d4, u, d5, hu⟩, _⟩ := hf i hi
    rw [e] at d0 d1 d2 d3 d4 hu
    rw [add_plainN] at d0 d1 d2 d3 d4 d5
    exact ⟨⟨d0, d1, d2, d3, d4⟩, u, d5, hu⟩
  · obtain ⟨i, hi, rfl⟩ := List.mem_map.1 hn
    exact (hf i (List.mem_range.1 hi)).2
set_option maxRecDepth 100000 in
theorem open_ast {H : Type} {enc : TypeId × Value → H} {w : World} {base : Nat} {v : Value} {d : DataW H} {p : List MemPlace} (hv : Value.okWide Tryz.prog w .any base 24 v)
    (h : DataW.Trod enc Tryz.prog w 0 (fun _ => true) true 24 v d p) : ∃ u ns, v = .agg #[u] ∧ IsNodes w u ns ∧ ns.length ≤ maxLen ∧ Fits ns := by
  have cA : Tryz.prog.cellsOf 24 = 1 := by kernel_rfl
  have cN : Tryz.prog.cellsOf 22 = 1 := by kernel_rfl
  obtain ⟨cs, rfl, hsz⟩ := okWide_struct Tryz.underlying24 hv
  obtain ⟨fuel, hf⟩ := h
  obtain ⟨xs, k, hk, hxy, hl, hxl, hfs⟩ := DataW.trod_struct Tryz.underlying24 hf
  obtain ⟨y0, rfl⟩ := one (show xs.length = 1 from hxl)
  have g0 := hfs 0 _ rfl
  simp [cN, Value.cells] at g0
  obtain ⟨u, ns, e, h1, h2, h3⟩ := nodes_of_cells g0
  rw [cA] at hsz
  obtain ⟨c, hc⟩ := one (show cs.toList.length = 1 by simpa using hsz)
  have e2 : cs = #[u] := by
    apply Array.ext'
    rw [hc] at e ⊢
    simpa using e
  exact ⟨u, ns, by rw [e2], h1, h2, h3⟩
end Go.Proofs.YtmcbmmpjhijagaaGreatDoor
