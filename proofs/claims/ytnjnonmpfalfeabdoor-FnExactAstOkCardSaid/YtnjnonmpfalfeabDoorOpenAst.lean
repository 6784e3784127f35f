/-
  AN ARGUMENT laws.Ast, OPENED AS A TREE.
-/
import Derived.Test.YtnjnonmpfalfeabDoorSzFns
import Derived.Deep.Slices
import Derived.ProofKit
import Derived.OpenShut
namespace Go.Proofs.YtnjnonmpfalfeabDoor
open Go Go.RowKit Go.Deep Go.WideShapes Go.ChangeShapes

theorem add_plainN (g off i : Nat) : (⟨g, off, none⟩ : Addr).add i = ⟨g, off + i, none⟩ := by
  unfold Addr.add
  by_cases h : i = 0 <;> simp [h]

theorem ints_of_cells {H : Type} {enc : TypeId × Value → H} {w : World} {cs : List Value} {fuel : Nat} {x : DataW H × List MemPlace}
    (h : DataW.trod enc Tryd.prog w 0 (fun _ => true) true fuel 80 cs = some x) : ∃ v xs, cs = [v] ∧ IsInts w v xs ∧ xs.length ≤ maxLen := by
  rcases open_ints Tryd.underlying80 Tryd.underlying3 (by kernel_rfl) h with ⟨rfl, _⟩ | ⟨a, len, cap, zs, rfl, _, hl, hm, hz, _, hcell, _⟩
  · exact ⟨_, [], rfl, Or.inl ⟨rfl, none, 0, rfl⟩, by simp⟩
  simp only [if_true] at hz
  by_cases h0 : len = 0
  · subst h0
    exact ⟨_, [], rfl, Or.inl ⟨rfl, _, _, rfl⟩, by simp⟩
  obtain ⟨g, off, spot⟩ := a
  have hspot : spot = none := by simpa [Addr.add] using World.cell?_spot (hcell 0 (by omega))
  subst hspot
  have hlen : (zs.take len).length = len := by simp; omega
  refine ⟨_, zs.take len, rfl, Or.inr ⟨g, off, cap, by rw [hlen], by rw [hlen]; exact hl, ?_, fun i x hx => ?_⟩, by rw [hlen]; omega⟩
  · exact World.block_lt_of_cell? w ⟨g, off + 0, none⟩ (by have := hcell 0 (by omega); rw [add_plainN] at this; exact this)
  · have hi := (List.getElem?_eq_some_iff.1 hx).1
    rw [hlen] at hi
    have := hcell i (by omega)
    rw [add_plainN] at this
    rw [this]
    rw [List.getElem?_take, if_pos hi] at hx
    rw [List.getD_eq_getElem?_getD, hx]
    rfl

theorem six {α : Type} : ∀ {l : List α}, l.length = 6 → ∃ a b c d e f, l = [a, b, c, d, e, f]
  | [a, b, c, d, e, f], _ => ⟨a, b, c, d, e, f, rfl⟩
theorem one {α : Type} : ∀ {l : List α}, l.length = 1 → ∃ a, l = [a]
  | [a], _ => ⟨a, rfl⟩

set_option maxRecDepth 100000 in
theorem nodes_of_cells {H : Type} {enc : TypeId × Value → H} {w : World} {cs : List Value} {fuel : Nat} {x : DataW H × List MemPlace}
    (h : DataW.trod enc Tryd.prog w 0 (fun _ => true) true fuel 46 cs = some x) : ∃ v ns, cs = [v] ∧ IsNodes w v ns ∧ ns.length ≤ maxLen ∧ Fits ns := by
  have ce : Tryd.prog.cellsOf 97 = 6 := by kernel_rfl
  have ci : Tryd.prog.cellsOf 3 = 1 := by kernel_rfl
  have cj : Tryd.prog.cellsOf 2 = 1 := by kernel_rfl
  have cS : Tryd.prog.cellsOf 9 = 1 := by kernel_rfl
  have cK : Tryd.prog.cellsOf 80 = 1 := by kernel_rfl
  rcases open_slice Tryd.underlying46 h with ⟨rfl, _⟩ | ⟨a, len, cap, m, n, D, Pl, rfl, _, hl, hm, hmm, _, hx⟩
  · exact ⟨_, [], rfl, Or.inl ⟨rfl, none, 0, rfl⟩, by simp, fun n hn => by simp at hn⟩
  simp only [if_true] at hmm
  subst hmm
  have each : ∀ i, i < len → ∃ nd : Nd, (w.cell? (a.add (i * 6)) = some (.int .i64 nd.K) ∧ w.cell? (a.add (i * 6 + 1)) = some (.int .i64 nd.N) ∧ w.cell? (a.add (i * 6 + 2)) = some (.int .i64 nd.M) ∧ w.cell? (a.add (i * 6 + 3)) = some (.string nd.S) ∧ w.cell? (a.add (i * 6 + 4)) = some (.string nd.T) ∧
      ∃ u, w.cell? (a.add (i * 6 + 5)) = some u ∧ IsInts w u nd.Kids) ∧ nd.S.size ≤ maxLen ∧ nd.T.size ≤ maxLen ∧ nd.Kids.length ≤ maxLen := fun i hi => by
    obtain ⟨cs', h1, h2⟩ := hx i (by omega)
    rw [ce] at h1
    obtain ⟨_, hlen, hcell⟩ := World.cells?_some h1
    obtain ⟨xs, k, hk, hxy, _, hxl, hf⟩ := DataW.trod_struct Tryd.underlying97 h2
    obtain ⟨y0, y1, y2, y3, y4, y5, rfl⟩ := six (show xs.length = 6 from hxl)
    obtain ⟨v0, v1, v2, v3, v4, v5, rfl⟩ := six hlen
    have g0 := hf 0 _ rfl
    have g1 := hf 1 _ rfl
    have g2 := hf 2 _ rfl
    have g3 := hf 3 _ rfl
    have g4 := hf 4 _ rfl
    have g5 := hf 5 _ rfl
    simp [ci, cj, cS, cK] at g0 g1 g2 g3 g4 g5
    have e0 := hcell 0 (by omega)
    have e1 := hcell 1 (by omega)
    have e2 := hcell 2 (by omega)
    have e3 := hcell 3 (by omega)
    have e4 := hcell 4 (by omega)
    have e5 := hcell 5 (by omega)
    rw [add_add] at e0 e1 e2 e3 e4 e5
    obtain ⟨z0, q0, _, _⟩ := DataW.trod_int Tryd.underlying3 g0
    obtain ⟨z1, q1, _, _⟩ := DataW.trod_int Tryd.underlying2 g1
    obtain ⟨z2, q2, _, _⟩ := DataW.trod_int Tryd.underlying3 g2
    obtain ⟨s3, q3, _, b3⟩ := DataW.trod_string Tryd.underlying9 g3
    obtain ⟨s4, q4, _, b4⟩ := DataW.trod_string Tryd.underlying9 g4
    obtain ⟨u, ks, q5, hu, hkl⟩ := ints_of_cells g5
    simp only [List.cons.injEq, and_true] at q0 q1 q2 q3 q4 q5
    subst q0 q1 q2 q3 q4 q5
    exact ⟨⟨z0, z1, z2, s3, s4, ks⟩, ⟨by simpa using e0, by simpa using e1, by simpa using e2, by simpa using e3, by simpa using e4, _, by simpa using e5, hu⟩, b3, b4, hkl⟩
  obtain ⟨f, hf⟩ := @choose_lt Nd ⟨⟨0, 0, 0, ByteArray.empty, ByteArray.empty, []⟩⟩ _ _ each
  by_cases h0 : len = 0
  · subst h0
    exact ⟨_, [], rfl, Or.inl ⟨rfl, _, _, rfl⟩, by simp, fun n hn => by simp at hn⟩
  obtain ⟨g, off, spot⟩ := a
  have hspot : spot = none := by simpa [Addr.add] using World.cell?_spot (hf 0 (by omega)).1.1
  subst hspot
  refine ⟨_, (List.range len).map f, rfl, Or.inr ⟨g, off, m, by simp, ?_, ?_⟩, by simp; omega, fun n hn => ?_⟩
  · exact World.block_lt_of_cell? w ⟨g, off + 0 * 6, none⟩ (by have := (hf 0 (by omega)).1.1; rw [add_plainN] at this; exact this)
  · intro i nd hx'
    have hi : i < len := by have := (List.getElem?_eq_some_iff.1 hx').1; simpa using this
    have e : f i = nd := by simpa [hi] using hx'
    obtain ⟨⟨d0, d1, d2, d3, d4, u, d5, hu⟩, _⟩ := hf i hi
    rw [e] at d0 d1 d2 d3 d4 hu
    rw [add_plainN] at d0 d1 d2 d3 d4 d5
    exact ⟨⟨d0, d1, d2, d3, d4⟩, u, d5, hu⟩
  · obtain ⟨i, hi, rfl⟩ := List.mem_map.1 hn
    exact (hf i (List.mem_range.1 hi)).2

set_option maxRecDepth 100000 in
theorem open_ast {H : Type} {enc : TypeId × Value → H} {w : World} {base : Nat} {v : Value} {d : DataW H} {p : List MemPlace} (hv : Value.okWide Tryd.prog w .any base 48 v)
    (h : DataW.Trod enc Tryd.prog w 0 (fun _ => true) true 48 v d p) : ∃ u ns, v = .agg #[u] ∧ IsNodes w u ns ∧ ns.length ≤ maxLen ∧ Fits ns := by
  have cA : Tryd.prog.cellsOf 48 = 1 := by kernel_rfl
  have cN : Tryd.prog.cellsOf 46 = 1 := by kernel_rfl
  obtain ⟨cs, rfl, hsz⟩ := okWide_struct Tryd.underlying48 hv
  obtain ⟨fuel, hf⟩ := h
  obtain ⟨xs, k, hk, hxy, hl, hxl, hfs⟩ := DataW.trod_struct Tryd.underlying48 hf
  obtain ⟨y0, rfl⟩ := one (show xs.length = 1 from hxl)
  have g0 := hfs 0 _ rfl
  simp [cN, Value.cells] at g0
  obtain ⟨u, ns, e, h1, h2, h3⟩ := nodes_of_cells g0
  rw [cA] at hsz
  obtain ⟨c, hc⟩ := one (show cs.toList.length = 1 by simpa using hsz)
  have e2 : cs = #[u] := by
    apply Array.ext'
    rw [hc] at e ⊢
    simpa using e
  exact ⟨u, ns, by rw [e2], h1, h2, h3⟩
end Go.Proofs.YtnjnonmpfalfeabDoor
