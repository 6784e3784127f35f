import Derived.Test.YteebidljiemegaaDoorQ14
namespace Go.Proofs.YteebidljiemegaaDoor
open Go Go.RowKit
abbrev R3 : Type := Nat × Nat × List V2
abbrev kR (r : R3) : List V2 := r.2.2
def rv (r : R3) : Value := .slice (some ⟨r.1, 0, none⟩) r.2.2.length r.2.1
def GridAt (w : World) (G off : Nat) (rs : List R3) : Prop := ∀ i r, rs[i]? = some r → w.cell? ⟨G, off + i, none⟩ = some (rv r)
def RowsOk (w : World) (rs : List R3) : Prop := ∀ r ∈ rs, OwnRow w r.1 r.2.2.length r.2.2 ∧ r.2.2.length ≤ r.2.1
def IsRows (w : World) (v : Value) (xss : List (List V2)) : Prop :=
  (xss = [] ∧ ∃ a cap, v = .slice a 0 cap) ∨ ∃ g off cap, v = .slice (some ⟨g, off, none⟩) xss.length cap ∧ g < w.heap.size ∧ ∀ i xs, xss[i]? = some xs → ∃ u, w.cell? ⟨g, off + i, none⟩ = some u ∧ IsRow w u xs
theorem GridAt.of {w w1 : World} {G off : Nat} {rs : List R3} (h : GridAt w G off rs) (hG : G < w.heap.size) (hb : Below w.heap.size w w1) : GridAt w1 G off rs := fun i r hr => (hb.cell (p := ⟨G, off + i, none⟩) hG).trans (h i r hr)
theorem RowsOk.of {w w1 : World} {rs : List R3} (h : RowsOk w rs) (hb : Below w.heap.size w w1) : RowsOk w1 rs := fun r hr => ⟨(h r hr).1.of hb, (h r hr).2⟩
theorem IsRows.of {w w1 : World} {v : Value} {xss : List (List V2)} (h : IsRows w v xss) (hb : Below w.heap.size w w1) : IsRows w1 v xss := by
  rcases h with h | ⟨g, off, cap, h1, h2, h3⟩
  · exact Or.inl h
  · refine Or.inr ⟨g, off, cap, h1, Nat.lt_of_lt_of_le h2 hb.size, fun i xs hx => ?_⟩
    obtain ⟨u, hu, hr⟩ := h3 i xs hx
    exact ⟨u, (hb.cell (p := ⟨g, off + i, none⟩) h2).trans hu, hr.of hb⟩
theorem setCell_far {w : World} {g o G O : Nat} {v : Value} (h : G ≠ g) : (w.setCell ⟨G, O, none⟩ v).cell? ⟨g, o, none⟩ = w.cell? ⟨g, o, none⟩ :=
  World.cell?_setCell_other _ _ _ _ (by intro he; injection he; contradiction)
theorem OwnRow.far {w : World} {g n : Nat} {xs : List V2} (h : OwnRow w g n xs) {G O : Nat} (hne : G ≠ g) (v : Value) : OwnRow (w.setCell ⟨G, O, none⟩ v) g n xs :=
  ⟨by simpa using h.size, fun o => by rw [frozen_setCell]; exact h.frz o, fun o ho => by rw [setCell_far hne]; exact h.all o ho, fun i x hx => by rw [setCell_far hne, setCell_far hne]; exact h.held i x hx⟩
theorem RowsOk.far {w : World} {rs : List R3} (h : RowsOk w rs) {G O : Nat} (hne : ∀ r ∈ rs, G ≠ r.1) (v : Value) : RowsOk (w.setCell ⟨G, O, none⟩ v) rs := fun r hr => ⟨(h r hr).1.far (hne r hr) v, (h r hr).2⟩
structure OwnGrid (w : World) (G n : Nat) (rs : List R3) : Prop where
  size : G < w.heap.size
  frz : ∀ o, w.frozen? ⟨G, o, none⟩ = false
  all : ∀ o, o < n → ∃ v, w.cell? ⟨G, o, none⟩ = some v
  held : GridAt w G 0 rs
theorem OwnGrid.of {w w1 : World} {G n : Nat} {rs : List R3} (h : OwnGrid w G n rs) (hb : Below w.heap.size w w1) : OwnGrid w1 G n rs :=
  ⟨Nat.lt_of_lt_of_le h.size hb.size, fun o => (hb.frozen (p := ⟨G, o, none⟩) h.size).trans (h.frz o), fun o ho => by
    obtain ⟨v, hv⟩ := h.all o ho
    exact ⟨v, (hb.cell (p := ⟨G, o, none⟩) h.size).trans hv⟩, h.held.of h.size hb⟩
theorem OwnGrid.push {w : World} {G n : Nat} {rs : List R3} (h : OwnGrid w G n rs) (hn : rs.length < n) (r : R3) : OwnGrid (w.setCell ⟨G, rs.length, none⟩ (rv r)) G n (rs ++ [r]) := by
  refine ⟨by simpa using h.size, fun o => by rw [frozen_setCell]; exact h.frz o, fun o ho => ?_, fun i x hx => ?_⟩
  · obtain ⟨v, hv⟩ := h.all o ho
    exact setCell_there hv
  · simp only [Nat.zero_add]
    by_cases hi : i < rs.length
    · rw [List.getElem?_append_left hi] at hx
      rw [setCell_other (by omega)]
      have := h.held i x hx
      simpa using this
    · obtain rfl : i = rs.length := by
        have := (List.getElem?_eq_some_iff.1 hx).1
        simp at this; omega
      simp at hx
      subst hx
      obtain ⟨v0, h0⟩ := h.all rs.length hn
      exact World.cell?_setCell_same _ _ _ h0
theorem OwnGrid.made (w : World) (n : Nat) (C : Array Value) (t : TypeId) (hC : C.size = n) : OwnGrid (w.alloc (.cells C t)) w.heap.size n [] :=
  ⟨by simp, fun o => by simp [go_sem], fun o ho => ⟨C[o]'(by omega), by rw [World.cell?_alloc_at C t _ o rfl]; simp⟩, fun i x hx => by simp at hx⟩
def bulk : List (List V2) → Nat
  | [] => 0
  | xs :: r => xs.length + bulk r
theorem bulk_append (a b : List (List V2)) : bulk (a ++ b) = bulk a + bulk b := by
  induction a with
  | nil => simp [bulk]
  | cons x a ih => simp only [List.cons_append, bulk, ih]; omega
theorem bulk_take (xss : List (List V2)) (k : Nat) (hk : k < xss.length) : bulk (xss.take (k + 1)) = bulk (xss.take k) + xss[k].length := by
  rw [take_snoc xss k hk, bulk_append]; simp [bulk]
theorem bulk_take_le (xss : List (List V2)) (k : Nat) : bulk (xss.take k) ≤ bulk xss := by
  have := bulk_append (xss.take k) (xss.drop k)
  rw [List.take_append_drop] at this
  omega
theorem bulk_mem {xss : List (List V2)} {xs : List V2} (h : xs ∈ xss) : xs.length ≤ bulk xss := by
  induction xss with
  | nil => cases h
  | cons x r ih =>
    simp only [bulk]
    cases List.mem_cons.1 h with
    | inl e => subst e; omega
    | inr e => have := ih e; omega
end Go.Proofs.YteebidljiemegaaDoor
