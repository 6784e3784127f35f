import Derived.Test.YtkdeilhkobcglaaDoorGRow
import Derived.Deep.SlicePairs
import Derived.ProofKit
import Derived.OpenShut
/-
  AN ARGUMENT []laws.Val, OPENED AS A ROW.
-/
namespace Go.Proofs.YtkdeilhkobcglaaDoor
open Go Go.RowKit Go.Deep Go.WideShapes

theorem row_of_cells {H : Type} {enc : TypeId × Value → H} {w : World} {cs : List Value} {fuel : Nat} {x : DataW H × List MemPlace}
    (h : DataW.trod enc Tryd.prog w 0 (fun _ => true) true fuel 142 cs = some x) : ∃ v xs, cs = [v] ∧ IsRow w v xs ∧ xs.length ≤ maxLen := by
  rcases open_slice_pairs (t := 142) (e := 156) Tryd.underlying142 Tryd.underlying156 (by kernel_rfl) (by kernel_rfl) (by kernel_rfl) (by kernel_rfl) (by kernel_rfl) h with
    ⟨rfl, _⟩ | ⟨a, len, cap, m, n, V0, V1, D0, D1, P0, P1, rfl, _, hl, hm, hmm, _, hc⟩
  · exact ⟨_, [], rfl, Or.inl ⟨rfl, none, 0, rfl⟩, by simp⟩
  simp only [if_true] at hmm
  subst hmm
  have each : ∀ i, i < len → ∃ x : V2, w.cell? (a.add (i * 2)) = some (.bool x.1) ∧ w.cell? (a.add (i * 2 + 1)) = some (.int .i64 x.2) := fun i hi => by
    obtain ⟨h1, h2, h3, h4⟩ := hc i (by omega)
    obtain ⟨b, e0, _⟩ := DataW.trod_bool Tryd.underlying4 h3
    obtain ⟨z, e1, _, _⟩ := DataW.trod_int Tryd.underlying2 h4
    simp only [List.cons.injEq, and_true] at e0 e1
    exact ⟨(b, z), by rw [h1, e0], by rw [h2, e1]⟩
  obtain ⟨f, hf⟩ := choose_lt each
  by_cases h0 : len = 0
  · subst h0
    exact ⟨_, [], rfl, Or.inl ⟨rfl, _, m, rfl⟩, by simp⟩
  obtain ⟨g, off, spot⟩ := a
  have hspot : spot = none := by simpa [Addr.add] using World.cell?_spot (hf 0 (by omega)).1
  subst hspot
  refine ⟨_, (List.range len).map f, rfl, Or.inr ⟨g, off, m, by simp, by simpa using hl, ?_, ?_⟩, by simp; omega⟩
  · exact World.block_lt_of_cell? w ⟨g, off + 0 * 2, none⟩ (by have := (hf 0 (by omega)).1; rw [add_plain] at this; exact this)
  · intro i x hx
    have hi : i < len := by have := (List.getElem?_eq_some_iff.1 hx).1; simpa using this
    have e : f i = x := by simpa [hi] using hx
    have := hf i hi
    rw [e, add_plain, add_plain] at this
    exact ⟨this.1, by rw [← this.2]; rfl⟩

set_option maxRecDepth 100000 in
theorem open_row {H : Type} {enc : TypeId × Value → H} {w : World} {base : Nat} {v : Value} {d : DataW H} {p : List MemPlace} (hv : Value.okWide Tryd.prog w .any base 142 v)
    (h : DataW.Trod enc Tryd.prog w 0 (fun _ => true) true 142 v d p) : ∃ xs, IsRow w v xs ∧ xs.length ≤ maxLen := by
  obtain ⟨a, len, cap, rfl⟩ := okWide_slice (P := Tryd.prog) (t := 142) (e := 156) Tryd.underlying142 hv
  obtain ⟨fuel, hf⟩ := h
  obtain ⟨v, xs, h1, h2, h3⟩ := row_of_cells hf
  simp only [Value.cells, List.cons.injEq, and_true] at h1
  subst h1
  exact ⟨xs, h2, h3⟩
end Go.Proofs.YtkdeilhkobcglaaDoor
