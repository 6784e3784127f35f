import Derived.Test.YtkdeilhkobcglaaDoorGDb
import Derived.Test.YtkdeilhkobcglaaDoorOpenRow
import Derived.Deep.Slices
import Derived.ProofKit
import Derived.OpenShut
/-
  AN ARGUMENT laws.Db, OPENED AS TABLES.
-/
namespace Go.Proofs.YtkdeilhkobcglaaDoor
open Go Go.RowKit Go.Deep Go.WideShapes Go.ChangeShapes

theorem add_plainT (g off i : Nat) : (⟨g, off, none⟩ : Addr).add i = ⟨g, off + i, none⟩ := by
  unfold Addr.add
  by_cases h : i = 0 <;> simp [h]
theorem threeT {α : Type} : ∀ {l : List α}, l.length = 3 → ∃ a b c, l = [a, b, c]
  | [a, b, c], _ => ⟨a, b, c, rfl⟩
theorem oneT {α : Type} : ∀ {l : List α}, l.length = 1 → ∃ a, l = [a]
  | [a], _ => ⟨a, rfl⟩

theorem rows_of_cells {H : Type} {enc : TypeId × Value → H} {w : World} {cs : List Value} {fuel : Nat} {x : DataW H × List MemPlace}
    (hf : DataW.trod enc Tryd.prog w 0 (fun _ => true) true fuel 80 cs = some x) : ∃ v xss, cs = [v] ∧ IsRows w v xss ∧ xss.length ≤ maxLen ∧ ∀ xs ∈ xss, xs.length ≤ maxLen := by
  rcases open_slice1 (t := 80) (e := 142) Tryd.underlying80 (by kernel_rfl) hf with ⟨rfl, _⟩ | ⟨a, len, cap, m, n, V, D, Pl, rfl, _, hl, hm, hmm, _, hc⟩
  · exact ⟨_, [], rfl, Or.inl ⟨rfl, none, 0, rfl⟩, by simp, by simp⟩
  simp only [if_true] at hmm
  subst hmm
  have each : ∀ i, i < len → ∃ xs : List V2, (∃ u, w.cell? (a.add i) = some u ∧ IsRow w u xs) ∧ xs.length ≤ maxLen := fun i hi => by
    obtain ⟨h1, h2⟩ := hc i (by omega)
    obtain ⟨u, xs, e1, e2, e3⟩ := row_of_cells h2
    simp only [List.cons.injEq, and_true] at e1
    exact ⟨xs, ⟨u, by rw [h1, e1], e2⟩, e3⟩
  obtain ⟨f, hf⟩ := choose_lt each
  have hb : ∀ xs ∈ (List.range len).map f, xs.length ≤ maxLen := fun xs hx => by
    obtain ⟨i, hi, rfl⟩ := List.mem_map.1 hx
    exact (hf i (List.mem_range.1 hi)).2
  by_cases h0 : len = 0
  · subst h0
    exact ⟨_, [], rfl, Or.inl ⟨rfl, _, m, rfl⟩, by simp, by simp⟩
  obtain ⟨g, off, spot⟩ := a
  obtain ⟨⟨u0, hu0, _⟩, _⟩ := hf 0 (by omega)
  have hspot : spot = none := by simpa [Addr.add] using World.cell?_spot hu0
  subst hspot
  refine ⟨_, (List.range len).map f, rfl, Or.inr ⟨g, off, m, by simp, ?_, ?_⟩, by simp; omega, hb⟩
  · exact World.block_lt_of_cell? w ⟨g, off + 0, none⟩ (by rw [add_plainT] at hu0; exact hu0)
  · intro i xs hx
    have hi : i < len := by have := (List.getElem?_eq_some_iff.1 hx).1; simpa using this
    have e : f i = xs := by simpa [hi] using hx
    obtain ⟨⟨u, hu, hr⟩, _⟩ := hf i hi
    rw [add_plainT] at hu
    exact ⟨u, hu, by rw [← e]; exact hr⟩

set_option maxRecDepth 100000 in
theorem tables_of_cells {H : Type} {enc : TypeId × Value → H} {w : World} {cs : List Value} {fuel : Nat} {x : DataW H × List MemPlace}
    (h : DataW.trod enc Tryd.prog w 0 (fun _ => true) true fuel 25 cs = some x) : ∃ v ts, cs = [v] ∧ IsTables w v ts ∧ ts.length ≤ maxLen ∧ FitsT ts := by
  have ce : Tryd.prog.cellsOf 82 = 3 := by kernel_rfl
  have ci : Tryd.prog.cellsOf 3 = 1 := by kernel_rfl
  have cS : Tryd.prog.cellsOf 9 = 1 := by kernel_rfl
  have cR : Tryd.prog.cellsOf 80 = 1 := by kernel_rfl
  rcases open_slice Tryd.underlying25 h with ⟨rfl, _⟩ | ⟨a, len, cap, m, n, D, Pl, rfl, _, hl, hm, hmm, _, hx⟩
  · exact ⟨_, [], rfl, Or.inl ⟨rfl, none, 0, rfl⟩, by simp, fun n hn => by simp at hn⟩
  simp only [if_true] at hmm
  subst hmm
  have each : ∀ i, i < len → ∃ tb : Tb, (w.cell? (a.add (i * 3)) = some (.string tb.Name) ∧ w.cell? (a.add (i * 3 + 1)) = some (.int .i64 tb.Cols) ∧ ∃ u, w.cell? (a.add (i * 3 + 2)) = some u ∧ IsRows w u tb.Rows) ∧
      tb.Name.size ≤ maxLen ∧ tb.Rows.length ≤ maxLen ∧ ∀ xs ∈ tb.Rows, xs.length ≤ maxLen := fun i hi => by
    obtain ⟨cs', h1, h2⟩ := hx i (by omega)
    rw [ce] at h1
    obtain ⟨_, hlen, hcell⟩ := World.cells?_some h1
    obtain ⟨xs, k, hk, hxy, _, hxl, hf⟩ := DataW.trod_struct Tryd.underlying82 h2
    obtain ⟨y0, y1, y2, rfl⟩ := threeT (show xs.length = 3 from hxl)
    obtain ⟨v0, v1, v2, rfl⟩ := threeT hlen
    have g0 := hf 0 _ rfl
    have g1 := hf 1 _ rfl
    have g2 := hf 2 _ rfl
    simp [ci, cS, cR] at g0 g1 g2
    have e0 := hcell 0 (by omega)
    have e1 := hcell 1 (by omega)
    have e2 := hcell 2 (by omega)
    rw [add_add] at e0 e1 e2
    obtain ⟨s0, q0, _, b0⟩ := DataW.trod_string Tryd.underlying9 g0
    obtain ⟨z1, q1, _, _⟩ := DataW.trod_int Tryd.underlying3 g1
    obtain ⟨u, xss, q2, hu, hkl, hkx⟩ := rows_of_cells g2
    simp only [List.cons.injEq, and_true] at q0 q1 q2
    subst q0 q1 q2
    exact ⟨⟨s0, z1, xss⟩, ⟨by simpa using e0, by simpa using e1, _, by simpa using e2, hu⟩, b0, hkl, hkx⟩
  obtain ⟨f, hf⟩ := @choose_lt Tb ⟨⟨ByteArray.empty, 0, []⟩⟩ _ _ each
  by_cases h0 : len = 0
  · subst h0
    exact ⟨_, [], rfl, Or.inl ⟨rfl, _, _, rfl⟩, by simp, fun n hn => by simp at hn⟩
  obtain ⟨g, off, spot⟩ := a
  have hspot : spot = none := by simpa [Addr.add] using World.cell?_spot (hf 0 (by omega)).1.1
  subst hspot
  refine ⟨_, (List.range len).map f, rfl, Or.inr ⟨g, off, m, by simp, ?_, ?_⟩, by simp; omega, fun n hn => ?_⟩
  · exact World.block_lt_of_cell? w ⟨g, off + 0 * 3, none⟩ (by have := (hf 0 (by omega)).1.1; rw [add_plainT] at this; exact this)
  · intro i tb hx'
    have hi : i < len := by have := (List.getElem?_eq_some_iff.1 hx').1; simpa using this
    have e : f i = tb := by simpa [hi] using hx'
    obtain ⟨⟨d0, d1, u, d2, hu⟩, _⟩ := hf i hi
    rw [e] at d0 d1 hu
    rw [add_plainT] at d0 d1 d2
    exact ⟨d0, d1, u, d2, hu⟩
  · obtain ⟨i, hi, rfl⟩ := List.mem_map.1 hn
    exact (hf i (List.mem_range.1 hi)).2

set_option maxRecDepth 100000 in
theorem open_db {H : Type} {enc : TypeId × Value → H} {w : World} {base : Nat} {v : Value} {d : DataW H} {p : List MemPlace} (hv : Value.okWide Tryd.prog w .any base 27 v)
    (h : DataW.Trod enc Tryd.prog w 0 (fun _ => true) true 27 v d p) : ∃ u ts, v = .agg #[u] ∧ IsTables w u ts ∧ ts.length ≤ maxLen ∧ FitsT ts := by
  have cA : Tryd.prog.cellsOf 27 = 1 := by kernel_rfl
  have cN : Tryd.prog.cellsOf 25 = 1 := by kernel_rfl
  obtain ⟨cs, rfl, hsz⟩ := okWide_struct Tryd.underlying27 hv
  obtain ⟨fuel, hf⟩ := h
  obtain ⟨xs, k, hk, hxy, hl, hxl, hfs⟩ := DataW.trod_struct Tryd.underlying27 hf
  obtain ⟨y0, rfl⟩ := oneT (show xs.length = 1 from hxl)
  have g0 := hfs 0 _ rfl
  simp [cN, Value.cells] at g0
  obtain ⟨u, ts, e, h1, h2, h3⟩ := tables_of_cells g0
  rw [cA] at hsz
  obtain ⟨c, hc⟩ := oneT (show cs.toList.length = 1 by simpa using hsz)
  have e2 : cs = #[u] := by
    apply Array.ext'
    rw [hc] at e ⊢
    simpa using e
  exact ⟨u, ts, by rw [e2], h1, h2, h3⟩
end Go.Proofs.YtkdeilhkobcglaaDoor
