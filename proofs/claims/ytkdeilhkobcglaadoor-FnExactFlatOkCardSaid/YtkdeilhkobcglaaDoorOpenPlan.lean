import Derived.Test.YtkdeilhkobcglaaDoorGPlan
import Derived.Test.YtkdeilhkobcglaaDoorOpenOps
import Derived.Deep.Slices
import Derived.ProofKit
import Derived.OpenShut
/-
  AN ARGUMENT laws.Plan, OPENED.
-/
namespace Go.Proofs.YtkdeilhkobcglaaDoor
open Go Go.RowKit Go.Deep Go.WideShapes Go.ChangeShapes

theorem add_plainP (g off i : Nat) : (⟨g, off, none⟩ : Addr).add i = ⟨g, off + i, none⟩ := by
  unfold Addr.add
  by_cases h : i = 0 <;> simp [h]
theorem sevenP {α : Type} : ∀ {l : List α}, l.length = 7 → ∃ a b c d e f g, l = [a, b, c, d, e, f, g]
  | [a, b, c, d, e, f, g], _ => ⟨a, b, c, d, e, f, g, rfl⟩
theorem oneP {α : Type} : ∀ {l : List α}, l.length = 1 → ∃ a, l = [a]
  | [a], _ => ⟨a, rfl⟩

theorem opss_of_cells {H : Type} {enc : TypeId × Value → H} {w : World} {cs : List Value} {fuel : Nat} {x : DataW H × List MemPlace}
    (hf : DataW.trod enc Tryd.prog w 0 (fun _ => true) true fuel 76 cs = some x) : ∃ v oss, cs = [v] ∧ IsOpss w v oss ∧ oss.length ≤ maxLen ∧ ∀ xs ∈ oss, xs.length ≤ maxLen := by
  rcases open_slice1 (t := 76) (e := 75) Tryd.underlying76 (by kernel_rfl) hf with ⟨rfl, _⟩ | ⟨a, len, cap, m, n, V, D, Pl, rfl, _, hl, hm, hmm, _, hc⟩
  · exact ⟨_, [], rfl, Or.inl ⟨rfl, none, 0, rfl⟩, by simp, by simp⟩
  simp only [if_true] at hmm
  subst hmm
  have each : ∀ i, i < len → ∃ xs : List O2, (∃ u, w.cell? (a.add i) = some u ∧ IsOps w u xs) ∧ xs.length ≤ maxLen := fun i hi => by
    obtain ⟨h1, h2⟩ := hc i (by omega)
    obtain ⟨u, xs, e1, e2, e3⟩ := ops_of_cells h2
    simp only [List.cons.injEq, and_true] at e1
    exact ⟨xs, ⟨u, by rw [h1, e1], e2⟩, e3⟩
  obtain ⟨f, hf⟩ := choose_lt each
  have hb : ∀ xs ∈ (List.range len).map f, xs.length ≤ maxLen := fun xs hx => by
    obtain ⟨i, hi, rfl⟩ := List.mem_map.1 hx
    exact (hf i (List.mem_range.1 hi)).2
  by_cases h0 : len = 0
  · subst h0
    exact ⟨_, [], rfl, Or.inl ⟨rfl, _, m, rfl⟩, by simp, by simp⟩
  obtain ⟨g, off, spot⟩ := a
  obtain ⟨⟨u0, hu0, _⟩, _⟩ := hf 0 (by omega)
  have hspot : spot = none := by simpa [Addr.add] using World.cell?_spot hu0
  subst hspot
  refine ⟨_, (List.range len).map f, rfl, Or.inr ⟨g, off, m, by simp, ?_, ?_⟩, by simp; omega, hb⟩
  · exact World.block_lt_of_cell? w ⟨g, off + 0, none⟩ (by rw [add_plainP] at hu0; exact hu0)
  · intro i xs hx
    have hi : i < len := by have := (List.getElem?_eq_some_iff.1 hx).1; simpa using this
    have e : f i = xs := by simpa [hi] using hx
    obtain ⟨⟨u, hu, hr⟩, _⟩ := hf i hi
    rw [add_plainP] at hu
    exact ⟨u, hu, by rw [← e]; exact hr⟩

set_option maxRecDepth 100000 in
theorem pns_of_cells {H : Type} {enc : TypeId × Value → H} {w : World} {cs : List Value} {fuel : Nat} {x : DataW H × List MemPlace}
    (h : DataW.trod enc Tryd.prog w 0 (fun _ => true) true fuel 22 cs = some x) : ∃ v ps, cs = [v] ∧ IsPns w v ps ∧ ps.length ≤ maxLen ∧ FitsP ps := by
  have ce : Tryd.prog.cellsOf 78 = 7 := by kernel_rfl
  have ci : Tryd.prog.cellsOf 3 = 1 := by kernel_rfl
  have cX : Tryd.prog.cellsOf 75 = 1 := by kernel_rfl
  have cY : Tryd.prog.cellsOf 76 = 1 := by kernel_rfl
  rcases open_slice Tryd.underlying22 h with ⟨rfl, _⟩ | ⟨a, len, cap, m, n, D, Pl, rfl, _, hl, hm, hmm, _, hx⟩
  · exact ⟨_, [], rfl, Or.inl ⟨rfl, none, 0, rfl⟩, by simp, fun n hn => by simp at hn⟩
  simp only [if_true] at hmm
  subst hmm
  have each : ∀ i, i < len → ∃ p : Pn, (w.cell? (a.add (i * 7)) = some (.int .i64 p.K) ∧ w.cell? (a.add (i * 7 + 1)) = some (.int .i64 p.T) ∧ w.cell? (a.add (i * 7 + 2)) = some (.int .i64 p.M) ∧ w.cell? (a.add (i * 7 + 5)) = some (.int .i64 p.L) ∧ w.cell? (a.add (i * 7 + 6)) = some (.int .i64 p.R) ∧
      (∃ u, w.cell? (a.add (i * 7 + 3)) = some u ∧ IsOps w u p.Ex) ∧ ∃ u, w.cell? (a.add (i * 7 + 4)) = some u ∧ IsOpss w u p.Exs) ∧ p.Ex.length ≤ maxLen ∧ p.Exs.length ≤ maxLen ∧ ∀ xs ∈ p.Exs, xs.length ≤ maxLen := fun i hi => by
    obtain ⟨cs', h1, h2⟩ := hx i (by omega)
    rw [ce] at h1
    obtain ⟨_, hlen, hcell⟩ := World.cells?_some h1
    obtain ⟨xs, k, hk, hxy, _, hxl, hf⟩ := DataW.trod_struct Tryd.underlying78 h2
    obtain ⟨y0, y1, y2, y3, y4, y5, y6, rfl⟩ := sevenP (show xs.length = 7 from hxl)
    obtain ⟨v0, v1, v2, v3, v4, v5, v6, rfl⟩ := sevenP hlen
    have g0 := hf 0 _ rfl
    have g1 := hf 1 _ rfl
    have g2 := hf 2 _ rfl
    have g3 := hf 3 _ rfl
    have g4 := hf 4 _ rfl
    have g5 := hf 5 _ rfl
    have g6 := hf 6 _ rfl
    simp [ci, cX, cY] at g0 g1 g2 g3 g4 g5 g6
    have e0 := hcell 0 (by omega)
    have e1 := hcell 1 (by omega)
    have e2 := hcell 2 (by omega)
    have e3 := hcell 3 (by omega)
    have e4 := hcell 4 (by omega)
    have e5 := hcell 5 (by omega)
    have e6 := hcell 6 (by omega)
    rw [add_add] at e0 e1 e2 e3 e4 e5 e6
    obtain ⟨z0, q0, _, _⟩ := DataW.trod_int Tryd.underlying3 g0
    obtain ⟨z1, q1, _, _⟩ := DataW.trod_int Tryd.underlying3 g1
    obtain ⟨z2, q2, _, _⟩ := DataW.trod_int Tryd.underlying3 g2
    obtain ⟨u3, x3, q3, hu3, b3⟩ := ops_of_cells g3
    obtain ⟨u4, x4, q4, hu4, b4, b4'⟩ := opss_of_cells g4
    obtain ⟨z5, q5, _, _⟩ := DataW.trod_int Tryd.underlying3 g5
    obtain ⟨z6, q6, _, _⟩ := DataW.trod_int Tryd.underlying3 g6
    simp only [List.cons.injEq, and_true] at q0 q1 q2 q3 q4 q5 q6
    subst q0 q1 q2 q3 q4 q5 q6
    exact ⟨⟨z0, z1, z2, x3, x4, z5, z6⟩, ⟨by simpa using e0, by simpa using e1, by simpa using e2, by simpa using e5, by simpa using e6, ⟨_, by simpa using e3, hu3⟩, _, by simpa using e4, hu4⟩, b3, b4, b4'⟩
  obtain ⟨f, hf⟩ := @choose_lt Pn ⟨⟨0, 0, 0, [], [], 0, 0⟩⟩ _ _ each
  by_cases h0 : len = 0
  · subst h0
    exact ⟨_, [], rfl, Or.inl ⟨rfl, _, _, rfl⟩, by simp, fun n hn => by simp at hn⟩
  obtain ⟨g, off, spot⟩ := a
  have hspot : spot = none := by simpa [Addr.add] using World.cell?_spot (hf 0 (by omega)).1.1
  subst hspot
  refine ⟨_, (List.range len).map f, rfl, Or.inr ⟨g, off, m, by simp, ?_, ?_⟩, by simp; omega, fun n hn => ?_⟩
  · exact World.block_lt_of_cell? w ⟨g, off + 0 * 7, none⟩ (by have := (hf 0 (by omega)).1.1; rw [add_plainP] at this; exact this)
  · intro i p hx'
    have hi : i < len := by have := (List.getElem?_eq_some_iff.1 hx').1; simpa using this
    have e : f i = p := by simpa [hi] using hx'
    obtain ⟨⟨d0, d1, d2, d5, d6, ⟨u, d3, hu⟩, u', d4, hu'⟩, _⟩ := hf i hi
    rw [e] at d0 d1 d2 d5 d6 hu hu'
    rw [add_plainP] at d0 d1 d2 d3 d4 d5 d6
    exact ⟨d0, d1, d2, d5, d6, ⟨u, d3, hu⟩, u', d4, hu'⟩
  · obtain ⟨i, hi, rfl⟩ := List.mem_map.1 hn
    exact (hf i (List.mem_range.1 hi)).2

set_option maxRecDepth 100000 in
theorem open_plan {H : Type} {enc : TypeId × Value → H} {w : World} {base : Nat} {v : Value} {d : DataW H} {p : List MemPlace} (hv : Value.okWide Tryd.prog w .any base 24 v)
    (h : DataW.Trod enc Tryd.prog w 0 (fun _ => true) true 24 v d p) : ∃ u ps, v = .agg #[u] ∧ IsPns w u ps ∧ ps.length ≤ maxLen ∧ FitsP ps := by
  have cA : Tryd.prog.cellsOf 24 = 1 := by kernel_rfl
  have cN : Tryd.prog.cellsOf 22 = 1 := by kernel_rfl
  obtain ⟨cs, rfl, hsz⟩ := okWide_struct Tryd.underlying24 hv
  obtain ⟨fuel, hf⟩ := h
  obtain ⟨xs, k, hk, hxy, hl, hxl, hfs⟩ := DataW.trod_struct Tryd.underlying24 hf
  obtain ⟨y0, rfl⟩ := oneP (show xs.length = 1 from hxl)
  have g0 := hfs 0 _ rfl
  simp [cN, Value.cells] at g0
  obtain ⟨u, ps, e, h1, h2, h3⟩ := pns_of_cells g0
  rw [cA] at hsz
  obtain ⟨c, hc⟩ := oneP (show cs.toList.length = 1 by simpa using hsz)
  have e2 : cs = #[u] := by
    apply Array.ext'
    rw [hc] at e ⊢
    simpa using e
  exact ⟨u, ps, by rw [e2], h1, h2, h3⟩
end Go.Proofs.YtkdeilhkobcglaaDoor
