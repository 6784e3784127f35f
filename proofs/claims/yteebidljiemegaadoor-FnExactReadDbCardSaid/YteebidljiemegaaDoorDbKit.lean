import Derived.Test.YteebidljiemegaaDoorNodeKit
import Derived.Test.YteebidljiemegaaDoorGridKit
namespace Go.Proofs.YteebidljiemegaaDoor
open Go Go.RowKit
structure Tb where
  Name : ByteArray
  Cols : Int
  Rows : List (List V2)
def IsTables (w : World) (v : Value) (ts : List Tb) : Prop :=
  (ts = [] ∧ ∃ a cap, v = .slice a 0 cap) ∨ ∃ g off cap, v = .slice (some ⟨g, off, none⟩) ts.length cap ∧ g < w.heap.size ∧
    ∀ i t, ts[i]? = some t → w.cell? ⟨g, off + i * 3, none⟩ = some (.string t.Name) ∧ w.cell? ⟨g, off + i * 3 + 1, none⟩ = some (.int .i64 t.Cols) ∧
      ∃ u, w.cell? ⟨g, off + i * 3 + 2, none⟩ = some u ∧ IsRows w u t.Rows
theorem IsTables.of {w w1 : World} {v : Value} {ts : List Tb} (h : IsTables w v ts) (hb : Below w.heap.size w w1) : IsTables w1 v ts := by
  rcases h with h | ⟨g, off, cap, h1, h2, h3⟩
  · exact Or.inl h
  · refine Or.inr ⟨g, off, cap, h1, Nat.lt_of_lt_of_le h2 hb.size, fun i t ht => ?_⟩
    obtain ⟨c0, c1, u, c2, hu⟩ := h3 i t ht
    exact ⟨(hb.cell (p := ⟨g, off + i * 3, none⟩) h2).trans c0, (hb.cell (p := ⟨g, off + i * 3 + 1, none⟩) h2).trans c1, u, (hb.cell (p := ⟨g, off + i * 3 + 2, none⟩) h2).trans c2, hu.of hb⟩
def MadeRows (w : World) (g G : Nat) (xss : List (List V2)) : Prop :=
  g < G ∧ G < w.heap.size ∧ ∃ rs : List R3, rs.map (fun r : R3 => r.2.2) = xss ∧ GridAt w G 0 rs ∧ RowsOk w rs ∧ ∀ r ∈ rs, G < r.1
theorem MadeRows.of {w w1 : World} {g G : Nat} {xss : List (List V2)} (h : MadeRows w g G xss) (hb : Below w.heap.size w w1) : MadeRows w1 g G xss := by
  obtain ⟨h1, h2, rs, h3, h4, h5, h6⟩ := h
  exact ⟨h1, Nat.lt_of_lt_of_le h2 hb.size, rs, h3, h4.of h2 hb, h5.of hb, h6⟩
theorem GridAt.far {w : World} {G off : Nat} {rs : List R3} (h : GridAt w G off rs) {X O : Nat} (hne : X ≠ G) (v : Value) : GridAt (w.setCell ⟨X, O, none⟩ v) G off rs := fun i r hr => by
  rw [setCell_far hne]
  exact h i r hr
theorem MadeRows.far {w : World} {g G : Nat} {xss : List (List V2)} (h : MadeRows w g G xss) {X O : Nat} (hX : X ≤ g) (v : Value) : MadeRows (w.setCell ⟨X, O, none⟩ v) g G xss := by
  obtain ⟨h1, h2, rs, h3, h4, h5, h6⟩ := h
  exact ⟨h1, by simpa using h2, rs, h3, h4.far (by omega) v, h5.far (fun r hr => by have := h6 r hr; omega) v, h6⟩
def TablesAt (w : World) (g off : Nat) (ts : List Tb) : Prop := ∀ i t, ts[i]? = some t → w.cell? ⟨g, off + i * 3, none⟩ = some (.string t.Name) ∧ w.cell? ⟨g, off + i * 3 + 1, none⟩ = some (.int .i64 t.Cols) ∧
  ∃ G, w.cell? ⟨g, off + i * 3 + 2, none⟩ = some (.slice (some ⟨G, 0, none⟩) t.Rows.length t.Rows.length) ∧ MadeRows w g G t.Rows
theorem TablesAt.of {w w1 : World} {g off : Nat} {ts : List Tb} (h : TablesAt w g off ts) (hg : g < w.heap.size) (hb : Below w.heap.size w w1) : TablesAt w1 g off ts := fun i t ht => by
  obtain ⟨c0, c1, G, c2, hG⟩ := h i t ht
  exact ⟨(hb.cell (p := ⟨g, off + i * 3, none⟩) hg).trans c0, (hb.cell (p := ⟨g, off + i * 3 + 1, none⟩) hg).trans c1, G, (hb.cell (p := ⟨g, off + i * 3 + 2, none⟩) hg).trans c2, hG.of hb⟩
theorem TablesAt.at {w : World} {g off : Nat} {ts : List Tb} (h : TablesAt w g off ts) (i : Nat) (hi : i < ts.length) : w.cell? ⟨g, off + i * 3, none⟩ = some (.string (ts[i]).Name) ∧ w.cell? ⟨g, off + i * 3 + 1, none⟩ = some (.int .i64 (ts[i]).Cols) ∧
  ∃ G, w.cell? ⟨g, off + i * 3 + 2, none⟩ = some (.slice (some ⟨G, 0, none⟩) (ts[i]).Rows.length (ts[i]).Rows.length) ∧ MadeRows w g G (ts[i]).Rows := h i ts[i] (by simp [hi])
theorem TablesAt.far {w : World} {g off : Nat} {ts : List Tb} (h : TablesAt w g off ts) {X O : Nat} (hX : X < g) (v : Value) : TablesAt (w.setCell ⟨X, O, none⟩ v) g off ts := fun i t ht => by
  obtain ⟨c0, c1, G, c2, hG⟩ := h i t ht
  refine ⟨?_, ?_, G, ?_, hG.far (Nat.le_of_lt hX) v⟩
  · rw [setCell_far (by omega)]; exact c0
  · rw [setCell_far (by omega)]; exact c1
  · rw [setCell_far (by omega)]; exact c2
theorem MadeRows.row {w : World} {g G : Nat} {xss : List (List V2)} (h : MadeRows w g G xss) (i : Nat) (hi : i < xss.length) : ∃ r : R3, w.cell? ⟨G, i, none⟩ = some (rv r) ∧ r.2.2 = xss[i] ∧ RowAt w r.1 0 r.2.2 ∧ r.1 < w.heap.size ∧ G < r.1 ∧ r.2.2.length ≤ r.2.1 := by
  obtain ⟨h1, h2, rs, h3, h4, h5, h6⟩ := h
  have hl : rs.length = xss.length := by rw [← h3]; simp
  have hi' : i < rs.length := by omega
  have hm : rs[i] ∈ rs := List.getElem_mem hi'
  refine ⟨rs[i], ?_, ?_, (h5 _ hm).1.held, (h5 _ hm).1.size, h6 _ hm, (h5 _ hm).2⟩
  · have := h4 i rs[i] (List.getElem?_eq_getElem hi')
    simpa using this
  · have : (rs.map (fun r : R3 => r.2.2))[i]'(by simpa using hi') = xss[i] := by simp only [h3]
    simpa using this
structure OwnTables (w : World) (g n : Nat) (ts : List Tb) : Prop where
  size : g < w.heap.size
  frz : ∀ o, w.frozen? ⟨g, o, none⟩ = false
  all : ∀ o, o < n * 3 → ∃ v, w.cell? ⟨g, o, none⟩ = some v
  held : TablesAt w g 0 ts
theorem OwnTables.of {w w1 : World} {g n : Nat} {ts : List Tb} (h : OwnTables w g n ts) (hb : Below w.heap.size w w1) : OwnTables w1 g n ts :=
  ⟨Nat.lt_of_lt_of_le h.size hb.size, fun o => (hb.frozen (p := ⟨g, o, none⟩) h.size).trans (h.frz o), fun o ho => by
    obtain ⟨v, hv⟩ := h.all o ho
    exact ⟨v, (hb.cell (p := ⟨g, o, none⟩) h.size).trans hv⟩, h.held.of h.size hb⟩
theorem OwnTables.made (w : World) (n : Nat) (C : Array Value) (t : TypeId) (hC : C.size = n * 3) : OwnTables (w.alloc (.cells C t)) w.heap.size n [] :=
  ⟨by simp, fun o => by simp [go_sem], fun o ho => ⟨C[o]'(by omega), by rw [World.cell?_alloc_at C t _ o rfl]; simp⟩, fun i x hx => by simp at hx⟩
def putTable (w : World) (g o : Nat) (t : Tb) (G : Nat) : World :=
  ((w.setCell ⟨g, o, none⟩ (.string t.Name)).setCell ⟨g, o + 1, none⟩ (.int .i64 t.Cols)).setCell ⟨g, o + 2, none⟩ (.slice (some ⟨G, 0, none⟩) t.Rows.length t.Rows.length)
theorem OwnTables.put {w : World} {g n k : Nat} {ts : List Tb} (h : OwnTables w g n (ts.take k)) (hk : k < ts.length) (hn : k < n) (G : Nat) (hG : MadeRows w g G (ts[k]).Rows) :
    OwnTables (putTable w g (k * 3) ts[k] G) g n (ts.take (k + 1)) := by
  refine ⟨by simpa [putTable] using h.size, fun o => by unfold putTable; simp only [frozen_setCell]; exact h.frz o, fun o ho => ?_, fun i x hx => ?_⟩
  · obtain ⟨v, hv⟩ := h.all o ho
    unfold putTable
    obtain ⟨v, hv⟩ := setCell_there (o' := k * 3) (v := .string (ts[k]).Name) hv
    obtain ⟨v, hv⟩ := setCell_there (o' := k * 3 + 1) (v := .int .i64 (ts[k]).Cols) hv
    exact setCell_there hv
  · rw [take_snoc ts k hk] at hx
    have hl : (ts.take k).length = k := by simp; omega
    unfold putTable
    by_cases hi : i < k
    · rw [List.getElem?_append_left (by omega)] at hx
      obtain ⟨c0, c1, G', c2, hG'⟩ := h.held i x hx
      refine ⟨?_, ?_, G', ?_, ((hG'.far (Nat.le_refl _) _).far (Nat.le_refl _) _).far (Nat.le_refl _) _⟩
      · rw [setCell_other (by omega), setCell_other (by omega), setCell_other (by omega)]; exact c0
      · rw [setCell_other (by omega), setCell_other (by omega), setCell_other (by omega)]; exact c1
      · rw [setCell_other (by omega), setCell_other (by omega), setCell_other (by omega)]; exact c2
    · obtain rfl : i = k := by
        have := (List.getElem?_eq_some_iff.1 hx).1
        simp at this; omega
      rw [List.getElem?_append_right (by omega)] at hx
      simp [hl] at hx
      subst hx
      simp only [Nat.zero_add]
      obtain ⟨v0, c0⟩ := h.all (i * 3) (by omega)
      obtain ⟨v1, c1⟩ := h.all (i * 3 + 1) (by omega)
      obtain ⟨v2, c2⟩ := h.all (i * 3 + 2) (by omega)
      refine ⟨?_, ?_, G, ?_, ((hG.far (Nat.le_refl _) _).far (Nat.le_refl _) _).far (Nat.le_refl _) _⟩
      · rw [setCell_other (by omega), setCell_other (by omega)]; exact World.cell?_setCell_same _ _ _ c0
      · rw [setCell_other (by omega)]; exact World.cell?_setCell_same _ _ _ (by rw [setCell_other (by omega)]; exact c1)
      · exact World.cell?_setCell_same _ _ _ (by rw [setCell_other (by omega), setCell_other (by omega)]; exact c2)
def bulkT : List Tb → Nat
  | [] => 0
  | t :: r => t.Name.size + (t.Rows.length + bulk t.Rows) + bulkT r
theorem bulkT_append (a b : List Tb) : bulkT (a ++ b) = bulkT a + bulkT b := by
  induction a with
  | nil => simp [bulkT]
  | cons x a ih => simp only [List.cons_append, bulkT, ih]; omega
theorem bulkT_take_le (ts : List Tb) (k : Nat) : bulkT (ts.take k) ≤ bulkT ts := by
  have := bulkT_append (ts.take k) (ts.drop k)
  rw [List.take_append_drop] at this
  omega
theorem bulkT_mem {ts : List Tb} {t : Tb} (h : t ∈ ts) : t.Name.size + (t.Rows.length + bulk t.Rows) ≤ bulkT ts := by
  induction ts with
  | nil => cases h
  | cons x r ih =>
    simp only [bulkT]
    cases List.mem_cons.1 h with
    | inl e => subst e; omega
    | inr e => have := ih e; omega
end Go.Proofs.YteebidljiemegaaDoor
