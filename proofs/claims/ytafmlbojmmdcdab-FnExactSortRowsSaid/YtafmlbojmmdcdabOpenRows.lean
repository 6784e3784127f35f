/-
  AN ARGUMENT [][]laws.Val, OPENED AS ROWS.
-/
import Derived.Test.YtafmlbojmmdcdabOpenRow
import Derived.Test.YtafmlbojmmdcdabGridKit
import Derived.Deep.Slices
namespace Go.Proofs.Ytafmlbojmmdcdab
open Go Go.RowKit Go.Deep Go.WideShapes
set_option maxRecDepth 100000 in
theorem open_rows {H : Type} {enc : TypeId × Value → H} {w : World} {base : Nat} {v : Value} {d : DataW H} {p : List MemPlace} (hv : Value.okWide Try.prog w .any base 29 v)
    (h : DataW.Trod enc Try.prog w 0 (fun _ => true) true 29 v d p) : ∃ xss, IsRows w v xss ∧ (xss.length ≤ maxLen ∧ ∀ xs ∈ xss, xs.length ≤ maxLen) := by
  obtain ⟨a0, len0, cap0, rfl⟩ := okWide_slice (P := Try.prog) (t := 29) (e := 22) Try.underlying29 hv
  obtain ⟨fuel, hf⟩ := h
  rcases open_slice1 (t := 29) (e := 22) Try.underlying29 (by kernel_rfl) hf with ⟨h1, _⟩ | ⟨a, len, cap, m, n, V, D, Pl, h1, _, hl, hm, hmm, _, hc⟩
  · simp only [Value.cells, List.cons.injEq, and_true] at h1
    rw [h1]
    exact ⟨[], Or.inl ⟨rfl, none, 0, rfl⟩, by simp, by simp⟩
  simp only [Value.cells, List.cons.injEq, and_true] at h1
  rw [h1]
  simp only [if_true] at hmm
  subst hmm
  have each : ∀ i, i < len → ∃ xs : List V2, (∃ u, w.cell? (a.add i) = some u ∧ IsRow w u xs) ∧ xs.length ≤ maxLen := fun i hi => by
    obtain ⟨h1, h2⟩ := hc i (by omega)
    obtain ⟨u, xs, e1, e2, e3⟩ := row_of_cells h2
    simp only [List.cons.injEq, and_true] at e1
    exact ⟨xs, ⟨u, by rw [h1, e1], e2⟩, e3⟩
  obtain ⟨f, hf⟩ := choose_lt each
  have hb : ∀ xs ∈ (List.range len).map f, xs.length ≤ maxLen := fun xs hx => by
    obtain ⟨i, hi, rfl⟩ := List.mem_map.1 hx
    exact (hf i (List.mem_range.1 hi)).2
  by_cases h0 : len = 0
  · subst h0
    exact ⟨[], Or.inl ⟨rfl, _, m, rfl⟩, by simp, by simp⟩
  obtain ⟨g, off, spot⟩ := a
  obtain ⟨⟨u0, hu0, _⟩, _⟩ := hf 0 (by omega)
  have hspot : spot = none := by simpa [Addr.add] using World.cell?_spot hu0
  subst hspot
  refine ⟨(List.range len).map f, Or.inr ⟨g, off, m, by simp, ?_, ?_⟩, by simp; omega, hb⟩
  · exact World.block_lt_of_cell? w ⟨g, off + 0, none⟩ (by rw [add_plain] at hu0; exact hu0)
  · intro i xs hx
    have hi : i < len := by have := (List.getElem?_eq_some_iff.1 hx).1; simpa using this
    have e : f i = xs := by simpa [hi] using hx
    obtain ⟨⟨u, hu, hr⟩, _⟩ := hf i hi
    rw [add_plain] at hu
    exact ⟨u, hu, by rw [← e]; exact hr⟩
end Go.Proofs.Ytafmlbojmmdcdab
