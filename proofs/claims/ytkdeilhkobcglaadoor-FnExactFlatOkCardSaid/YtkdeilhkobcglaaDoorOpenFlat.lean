import Derived.Test.YtkdeilhkobcglaaDoorGFlatKit
import Derived.Test.YtkdeilhkobcglaaDoorOpenPlan
/-
  AN ARGUMENT laws.Flat, OPENED.
-/
namespace Go.Proofs.YtkdeilhkobcglaaDoor
open Go Go.RowKit Go.Deep Go.WideShapes Go.ChangeShapes

theorem eightF {α : Type} : ∀ {l : List α}, l.length = 8 → ∃ a b c d e f g h, l = [a, b, c, d, e, f, g, h]
  | [a, b, c, d, e, f, g, h], _ => ⟨a, b, c, d, e, f, g, h, rfl⟩
theorem twoF {α : Type} : ∀ {l : List α}, l.length = 2 → ∃ a b, l = [a, b]
  | [a, b], _ => ⟨a, b, rfl⟩

set_option maxRecDepth 100000 in
theorem fns_of_cells {H : Type} {enc : TypeId × Value → H} {w : World} {cs : List Value} {fuel : Nat} {x : DataW H × List MemPlace}
    (h : DataW.trod enc Tryd.prog w 0 (fun _ => true) true fuel 44 cs = some x) : ∃ v ps, cs = [v] ∧ IsFns w v ps ∧ ps.length ≤ maxLen ∧ FitsF ps := by
  have ce : Tryd.prog.cellsOf 109 = 8 := by kernel_rfl
  have ci : Tryd.prog.cellsOf 3 = 1 := by kernel_rfl
  have cX : Tryd.prog.cellsOf 75 = 1 := by kernel_rfl
  have cY : Tryd.prog.cellsOf 76 = 1 := by kernel_rfl
  rcases open_slice Tryd.underlying44 h with ⟨rfl, _⟩ | ⟨a, len, cap, m, n, D, Pl, rfl, _, hl, hm, hmm, _, hx⟩
  · exact ⟨_, [], rfl, Or.inl ⟨rfl, none, 0, rfl⟩, by simp, fun n hn => by simp at hn⟩
  simp only [if_true] at hmm
  subst hmm
  have each : ∀ i, i < len → ∃ p : Fn, (w.cell? (a.add (i * 8)) = some (.int .i64 p.K) ∧ w.cell? (a.add (i * 8 + 1)) = some (.int .i64 p.T) ∧ w.cell? (a.add (i * 8 + 2)) = some (.int .i64 p.M) ∧ w.cell? (a.add (i * 8 + 3)) = some (.int .i64 p.W) ∧ w.cell? (a.add (i * 8 + 6)) = some (.int .i64 p.L) ∧ w.cell? (a.add (i * 8 + 7)) = some (.int .i64 p.R) ∧
      (∃ u, w.cell? (a.add (i * 8 + 4)) = some u ∧ IsOps w u p.Ex) ∧ ∃ u, w.cell? (a.add (i * 8 + 5)) = some u ∧ IsOpss w u p.Exs) ∧ p.Ex.length ≤ maxLen ∧ p.Exs.length ≤ maxLen ∧ ∀ xs ∈ p.Exs, xs.length ≤ maxLen := fun i hi => by
    obtain ⟨cs', h1, h2⟩ := hx i (by omega)
    rw [ce] at h1
    obtain ⟨_, hlen, hcell⟩ := World.cells?_some h1
    obtain ⟨xs, k, hk, hxy, _, hxl, hf⟩ := DataW.trod_struct Tryd.underlying109 h2
    obtain ⟨y0, y1, y2, y3, y4, y5, y6, y7, rfl⟩ := eightF (show xs.length = 8 from hxl)
    obtain ⟨v0, v1, v2, v3, v4, v5, v6, v7, rfl⟩ := eightF hlen
    have g0 := hf 0 _ rfl
    have g1 := hf 1 _ rfl
    have g2 := hf 2 _ rfl
    have g3 := hf 3 _ rfl
    have g4 := hf 4 _ rfl
    have g5 := hf 5 _ rfl
    have g6 := hf 6 _ rfl
    have g7 := hf 7 _ rfl
    simp [ci, cX, cY] at g0 g1 g2 g3 g4 g5 g6 g7
    have e0 := hcell 0 (by omega)
    have e1 := hcell 1 (by omega)
    have e2 := hcell 2 (by omega)
    have e3 := hcell 3 (by omega)
    have e4 := hcell 4 (by omega)
    have e5 := hcell 5 (by omega)
    have e6 := hcell 6 (by omega)
    have e7 := hcell 7 (by omega)
    rw [add_add] at e0 e1 e2 e3 e4 e5 e6 e7
    obtain ⟨z0, q0, _, _⟩ := DataW.trod_int Tryd.underlying3 g0
    obtain ⟨z1, q1, _, _⟩ := DataW.trod_int Tryd.underlying3 g1
    obtain ⟨z2, q2, _, _⟩ := DataW.trod_int Tryd.underlying3 g2
    obtain ⟨z3, q3, _, _⟩ := DataW.trod_int Tryd.underlying3 g3
    obtain ⟨u4, x4, q4, hu4, b4⟩ := ops_of_cells g4
    obtain ⟨u5, x5, q5, hu5, b5, b5'⟩ := opss_of_cells g5
    obtain ⟨z6, q6, _, _⟩ := DataW.trod_int Tryd.underlying3 g6
    obtain ⟨z7, q7, _, _⟩ := DataW.trod_int Tryd.underlying3 g7
    simp only [List.cons.injEq, and_true] at q0 q1 q2 q3 q4 q5 q6 q7
    subst q0 q1 q2 q3 q4 q5 q6 q7
    exact ⟨⟨z0, z1, z2, z3, x4, x5, z6, z7⟩, ⟨by simpa using e0, by simpa using e1, by simpa using e2, by simpa using e3, by simpa using e6, by simpa using e7, ⟨_, by simpa using e4, hu4⟩, _, by simpa using e5, hu5⟩, b4, b5, b5'⟩
  obtain ⟨f, hf⟩ := @choose_lt Fn ⟨⟨0, 0, 0, 0, [], [], 0, 0⟩⟩ _ _ each
  by_cases h0 : len = 0
  · subst h0
    exact ⟨_, [], rfl, Or.inl ⟨rfl, _, _, rfl⟩, by simp, fun n hn => by simp at hn⟩
  obtain ⟨g, off, spot⟩ := a
  have hspot : spot = none := by simpa [Addr.add] using World.cell?_spot (hf 0 (by omega)).1.1
  subst hspot
  refine ⟨_, (List.range len).map f, rfl, Or.inr ⟨g, off, m, by simp, ?_, ?_⟩, by simp; omega, fun n hn => ?_⟩
  · exact World.block_lt_of_cell? w ⟨g, off + 0 * 8, none⟩ (by have := (hf 0 (by omega)).1.1; rw [add_plainP] at this; exact this)
  · intro i p hx'
    have hi : i < len := by have := (List.getElem?_eq_some_iff.1 hx').1; simpa using this
    have e : f i = p := by simpa [hi] using hx'
    obtain ⟨⟨d0, d1, d2, d3, d6, d7, ⟨u, d4, hu⟩, u', d5, hu'⟩, _⟩ := hf i hi
    rw [e] at d0 d1 d2 d3 d6 d7 hu hu'
    rw [add_plainP] at d0 d1 d2 d3 d4 d5 d6 d7
    exact ⟨d0, d1, d2, d3, d6, d7, ⟨u, d4, hu⟩, u', d5, hu'⟩
  · obtain ⟨i, hi, rfl⟩ := List.mem_map.1 hn
    exact (hf i (List.mem_range.1 hi)).2

set_option maxRecDepth 100000 in
theorem open_flat {H : Type} {enc : TypeId × Value → H} {w : World} {base : Nat} {v : Value} {d : DataW H} {p : List MemPlace} (hv : Value.okWide Tryd.prog w .any base 46 v)
    (h : DataW.Trod enc Tryd.prog w 0 (fun _ => true) true 46 v d p) : ∃ u Rt ps, v = .agg #[u, .int .i64 Rt] ∧ IsFns w u ps ∧ ps.length ≤ maxLen ∧ FitsF ps := by
  have cA : Tryd.prog.cellsOf 46 = 2 := by kernel_rfl
  have ci : Tryd.prog.cellsOf 3 = 1 := by kernel_rfl
  have cN : Tryd.prog.cellsOf 44 = 1 := by kernel_rfl
  obtain ⟨cs, rfl, hsz⟩ := okWide_struct Tryd.underlying46 hv
  obtain ⟨fuel, hf⟩ := h
  obtain ⟨xs, k, hk, hxy, hl, hxl, hfs⟩ := DataW.trod_struct Tryd.underlying46 hf
  obtain ⟨y0, y1, rfl⟩ := twoF (show xs.length = 2 from hxl)
  rw [cA] at hsz
  obtain ⟨c, c', hc⟩ := twoF (show cs.toList.length = 2 by simpa using hsz)
  obtain rfl : cs = #[c, c'] := by
    apply Array.ext'
    rw [hc]
  have g0 := hfs 0 _ rfl
  have g1 := hfs 1 _ rfl
  simp [cN, ci, Value.cells] at g0 g1
  obtain ⟨u, ps, e, h1, h2, h3⟩ := fns_of_cells g0
  obtain ⟨z1, q1, _, _⟩ := DataW.trod_int Tryd.underlying3 g1
  simp only [List.cons.injEq, and_true] at e q1
  subst e q1
  exact ⟨_, z1, ps, rfl, h1, h2, h3⟩
end Go.Proofs.YtkdeilhkobcglaaDoor
