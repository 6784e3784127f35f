import Derived.Test.YtbbjhepagkkjeaaGreatDoorQ7
import Derived.Test.YtbbjhepagkkjeaaGreatDoorQ0
import Derived.Test.YtbbjhepagkkjeaaGreatDoorQ3
namespace Go.Proofs.YtbbjhepagkkjeaaGreatDoor
open Go Go.RowKit
def IntsAt (w : World) (g off : Nat) (xs : List Int) : Prop := ∀ i x, xs[i]? = some x → w.cell? ⟨g, off + i, none⟩ = some (.int .i64 x)
def IsInts (w : World) (v : Value) (xs : List Int) : Prop :=
  (xs = [] ∧ ∃ a cap, v = .slice a 0 cap) ∨ ∃ g off cap, v = .slice (some ⟨g, off, none⟩) xs.length cap ∧ xs.length ≤ cap ∧ g < w.heap.size ∧ IntsAt w g off xs
theorem IntsAt.of {w w1 : World} {g off : Nat} {xs : List Int} (h : IntsAt w g off xs) (hg : g < w.heap.size) (hb : Below w.heap.size w w1) : IntsAt w1 g off xs := fun i x hx =>
  (hb.cell (p := ⟨g, off + i, none⟩) hg).trans (h i x hx)
theorem IsInts.of {w w1 : World} {v : Value} {xs : List Int} (h : IsInts w v xs) (hb : Below w.heap.size w w1) : IsInts w1 v xs := by
  rcases h with h | ⟨g, off, cap, h1, h2, h3, h4⟩
  · exact Or.inl h
  · exact Or.inr ⟨g, off, cap, h1, h2, Nat.lt_of_lt_of_le h3 hb.size, h4.of h3 hb⟩
theorem IntsAt.at {w : World} {g off : Nat} {xs : List Int} (h : IntsAt w g off xs) (i : Nat) (hi : i < xs.length) : w.cell? ⟨g, off + i, none⟩ = some (.int .i64 xs[i]) := h i xs[i] (by simp [hi])
structure OwnInts (w : World) (g n : Nat) (xs : List Int) : Prop where
  size : g < w.heap.size
  frz : ∀ o, w.frozen? ⟨g, o, none⟩ = false
  all : ∀ o, o < n → ∃ v, w.cell? ⟨g, o, none⟩ = some v
  held : IntsAt w g 0 xs
theorem OwnInts.of {w w1 : World} {g n : Nat} {xs : List Int} (h : OwnInts w g n xs) (hb : Below w.heap.size w w1) : OwnInts w1 g n xs :=
  ⟨Nat.lt_of_lt_of_le h.size hb.size, fun o => (hb.frozen (p := ⟨g, o, none⟩) h.size).trans (h.frz o), fun o ho => by
    obtain ⟨v, hv⟩ := h.all o ho
    exact ⟨v, (hb.cell (p := ⟨g, o, none⟩) h.size).trans hv⟩, h.held.of h.size hb⟩
theorem frozen_setCellN (w : World) (p a : Addr) (v : Value) : (w.setCell p v).frozen? a = w.frozen? a := by simp [go_sem]
theorem setCell_thereN {w : World} {g o o' : Nat} {v u : Value} (h : w.cell? ⟨g, o, none⟩ = some u) : ∃ z, (w.setCell ⟨g, o', none⟩ v).cell? ⟨g, o, none⟩ = some z := by
  by_cases e : o' = o
  · subst e; exact ⟨v, World.cell?_setCell_same _ _ _ h⟩
  · exact ⟨u, by rw [World.cell?_setCell_other _ _ _ _ (by intro he; injection he; contradiction)]; exact h⟩
theorem setCell_otherN {w : World} {g o o' : Nat} {v : Value} (h : o' ≠ o) : (w.setCell ⟨g, o', none⟩ v).cell? ⟨g, o, none⟩ = w.cell? ⟨g, o, none⟩ :=
  World.cell?_setCell_other _ _ _ _ (by intro he; injection he; contradiction)
theorem setCell_farN {w : World} {g o G O : Nat} {v : Value} (h : G ≠ g) : (w.setCell ⟨G, O, none⟩ v).cell? ⟨g, o, none⟩ = w.cell? ⟨g, o, none⟩ :=
  World.cell?_setCell_other _ _ _ _ (by intro he; injection he; contradiction)
theorem take_snocN {α : Type} (xs : List α) (k : Nat) (h : k < xs.length) : xs.take (k + 1) = xs.take k ++ [xs[k]] := by
  rw [List.take_succ_eq_append_getElem h]
theorem OwnInts.put {w : World} {g n k : Nat} {xs : List Int} (h : OwnInts w g n (xs.take k)) (hk : k < xs.length) (hn : k < n) : OwnInts (w.setCell ⟨g, k, none⟩ (.int .i64 xs[k])) g n (xs.take (k + 1)) := by
  refine ⟨by simpa using h.size, fun o => by rw [frozen_setCellN]; exact h.frz o, fun o ho => ?_, fun i x hx => ?_⟩
  · obtain ⟨v, hv⟩ := h.all o ho
    exact setCell_thereN hv
  · simp only [Nat.zero_add]
    rw [take_snocN xs k hk] at hx
    have hl : (xs.take k).length = k := by simp; omega
    by_cases hi : i < k
    · rw [List.getElem?_append_left (by omega)] at hx
      rw [setCell_otherN (by omega)]
      have := h.held i x hx
      simpa using this
    · obtain rfl : i = k := by
        have := (List.getElem?_eq_some_iff.1 hx).1
        simp at this; omega
      rw [List.getElem?_append_right (by omega)] at hx
      simp [hl] at hx
      subst hx
      obtain ⟨v0, h0⟩ := h.all i hn
      exact World.cell?_setCell_same _ _ _ h0
theorem OwnInts.made (w : World) (n : Nat) (C : Array Value) (t : TypeId) (hC : C.size = n) : OwnInts (w.alloc (.cells C t)) w.heap.size n [] :=
  ⟨by simp, fun o => by simp [go_sem], fun o ho => ⟨C[o]'(by omega), by rw [World.cell?_alloc_at C t _ o rfl]; simp⟩, fun i x hx => by simp at hx⟩
theorem OwnInts.far {w : World} {g n : Nat} {xs : List Int} (h : OwnInts w g n xs) {G O : Nat} (hne : G ≠ g) (v : Value) : OwnInts (w.setCell ⟨G, O, none⟩ v) g n xs :=
  ⟨by simpa using h.size, fun o => by rw [frozen_setCellN]; exact h.frz o, fun o ho => by rw [setCell_farN hne]; exact h.all o ho, fun i x hx => by rw [setCell_farN hne]; exact h.held i x hx⟩
structure Cells5 (w : World) (g o : Nat) (n : Nd) : Prop where
  c0 : w.cell? ⟨g, o, none⟩ = some (.int .i64 n.K)
  c1 : w.cell? ⟨g, o + 1, none⟩ = some (.int .i64 n.N)
  c2 : w.cell? ⟨g, o + 2, none⟩ = some (.int .i64 n.M)
  c3 : w.cell? ⟨g, o + 3, none⟩ = some (.string n.S)
  c4 : w.cell? ⟨g, o + 4, none⟩ = some (.string n.T)
theorem Cells5.of {w w1 : World} {g o : Nat} {n : Nd} (h : Cells5 w g o n) (hg : g < w.heap.size) (hb : Below w.heap.size w w1) : Cells5 w1 g o n :=
  ⟨(hb.cell (p := ⟨g, o, none⟩) hg).trans h.c0, (hb.cell (p := ⟨g, o + 1, none⟩) hg).trans h.c1, (hb.cell (p := ⟨g, o + 2, none⟩) hg).trans h.c2, (hb.cell (p := ⟨g, o + 3, none⟩) hg).trans h.c3, (hb.cell (p := ⟨g, o + 4, none⟩) hg).trans h.c4⟩
def IsNodes (w : World) (v : Value) (ns : List Nd) : Prop :=
  (ns = [] ∧ ∃ a cap, v = .slice a 0 cap) ∨ ∃ g off cap, v = .slice (some ⟨g, off, none⟩) ns.length cap ∧ g < w.heap.size ∧
    ∀ i n, ns[i]? = some n → Cells5 w g (off + i * 6) n ∧ ∃ u, w.cell? ⟨g, off + i * 6 + 5, none⟩ = some u ∧ IsInts w u n.Kids
theorem IsNodes.of {w w1 : World} {v : Value} {ns : List Nd} (h : IsNodes w v ns) (hb : Below w.heap.size w w1) : IsNodes w1 v ns := by
  rcases h with h | ⟨g, off, cap, h1, h2, h3⟩
  · exact Or.inl h
  · refine Or.inr ⟨g, off, cap, h1, Nat.lt_of_lt_of_le h2 hb.size, fun i n hn => ?_⟩
    obtain ⟨h4, u, hu, hr⟩ := h3 i n hn
    exact ⟨h4.of h2 hb, u, (hb.cell (p := ⟨g, off + i * 6 + 5, none⟩) h2).trans hu, hr.of hb⟩
def NodesAt (w : World) (g off : Nat) (ns : List Nd) : Prop := ∀ i n, ns[i]? = some n → Cells5 w g (off + i * 6) n ∧
  ∃ kg, w.cell? ⟨g, off + i * 6 + 5, none⟩ = some (.slice (some ⟨kg, 0, none⟩) n.Kids.length n.Kids.length) ∧ g < kg ∧ kg < w.heap.size ∧ IntsAt w kg 0 n.Kids
theorem NodesAt.of {w w1 : World} {g off : Nat} {ns : List Nd} (h : NodesAt w g off ns) (hg : g < w.heap.size) (hb : Below w.heap.size w w1) : NodesAt w1 g off ns := fun i n hn => by
  obtain ⟨h1, kg, h2, h3, h4, h5⟩ := h i n hn
  exact ⟨h1.of hg hb, kg, (hb.cell (p := ⟨g, off + i * 6 + 5, none⟩) hg).trans h2, h3, Nat.lt_of_lt_of_le h4 hb.size, h5.of h4 hb⟩
theorem NodesAt.at {w : World} {g off : Nat} {ns : List Nd} (h : NodesAt w g off ns) (i : Nat) (hi : i < ns.length) : Cells5 w g (off + i * 6) ns[i] ∧
  ∃ kg, w.cell? ⟨g, off + i * 6 + 5, none⟩ = some (.slice (some ⟨kg, 0, none⟩) ns[i].Kids.length ns[i].Kids.length) ∧ g < kg ∧ kg < w.heap.size ∧ IntsAt w kg 0 ns[i].Kids := h i ns[i] (by simp [hi])
structure OwnNodes (w : World) (g n : Nat) (ns : List Nd) : Prop where
  size : g < w.heap.size
  frz : ∀ o, w.frozen? ⟨g, o, none⟩ = false
  all : ∀ o, o < n * 6 → ∃ v, w.cell? ⟨g, o, none⟩ = some v
  held : NodesAt w g 0 ns
theorem OwnNodes.of {w w1 : World} {g n : Nat} {ns : List Nd} (h : OwnNodes w g n ns) (hb : Below w.heap.size w w1) : OwnNodes w1 g n ns :=
  ⟨Nat.lt_of_lt_of_le h.size hb.size, fun o => (hb.frozen (p := ⟨g, o, none⟩) h.size).trans (h.frz o), fun o ho => by
    obtain ⟨v, hv⟩ := h.all o ho
    exact ⟨v, (hb.cell (p := ⟨g, o, none⟩) h.size).trans hv⟩, h.held.of h.size hb⟩
theorem OwnNodes.made (w : World) (n : Nat) (C : Array Value) (t : TypeId) (hC : C.size = n * 6) : OwnNodes (w.alloc (.cells C t)) w.heap.size n [] :=
  ⟨by simp, fun o => by simp [go_sem], fun o ho => ⟨C[o]'(by omega), by rw [World.cell?_alloc_at C t _ o rfl]; simp⟩, fun i x hx => by simp at hx⟩
def putNode (w : World) (g o : Nat) (n : Nd) (kg : Nat) : World :=
  (((((w.setCell ⟨g, o, none⟩ (.int .i64 n.K)).setCell ⟨g, o + 1, none⟩ (.int .i64 n.N)).setCell ⟨g, o + 2, none⟩ (.int .i64 n.M)).setCell ⟨g, o + 3, none⟩ (.string n.S)).setCell ⟨g, o + 4, none⟩ (.string n.T)).setCell ⟨g, o + 5, none⟩ (.slice (some ⟨kg, 0, none⟩) n.Kids.length n.Kids.length)
theorem putNode_far {w : World} {g o : Nat} {n : Nd} {kg : Nat} {G O : Nat} (h : g ≠ G) : (putNode w g o n kg).cell? ⟨G, O, none⟩ = w.cell? ⟨G, O, none⟩ := by
  unfold putNode
  rw [setCell_farN h, setCell_farN h, setCell_farN h, setCell_farN h, setCell_farN h, setCell_farN h]
theorem putNode_else {w : World} {g o : Nat} {n : Nd} {kg : Nat} {O : Nat} (h : O < o ∨ o + 5 < O) : (putNode w g o n kg).cell? ⟨g, O, none⟩ = w.cell? ⟨g, O, none⟩ := by
  unfold putNode
  rw [setCell_otherN (by omega), setCell_otherN (by omega), setCell_otherN (by omega), setCell_otherN (by omega), setCell_otherN (by omega), setCell_otherN (by omega)]
theorem OwnNodes.put {w : World} {g n k : Nat} {ns : List Nd} (h : OwnNodes w g n (ns.take k)) (hk : k < ns.length) (hn : k < n) (kg : Nat) (h1 : g < kg) (h2 : kg < w.heap.size) (h3 : IntsAt w kg 0 ns[k].Kids) :
    OwnNodes (putNode w g (k * 6) ns[k] kg) g n (ns.take (k + 1)) := by
  have hsz : (putNode w g (k * 6) ns[k] kg).heap.size = w.heap.size := by simp [putNode]
  have hi6 : ∀ o, o < 6 → ∃ v, w.cell? ⟨g, k * 6 + o, none⟩ = some v := fun o ho => h.all _ (by omega)
  refine ⟨by rw [hsz]; exact h.size, fun o => by unfold putNode; simp only [frozen_setCellN]; exact h.frz o, fun o ho => ?_, fun i x hx => ?_⟩
  · obtain ⟨v, hv⟩ := h.all o ho
    unfold putNode
    obtain ⟨v, hv⟩ := setCell_thereN (o' := k * 6) (v := .int .i64 ns[k].K) hv
    obtain ⟨v, hv⟩ := setCell_thereN (o' := k * 6 + 1) (v := .int .i64 ns[k].N) hv
    obtain ⟨v, hv⟩ := setCell_thereN (o' := k * 6 + 2) (v := .int .i64 ns[k].M) hv
    obtain ⟨v, hv⟩ := setCell_thereN (o' := k * 6 + 3) (v := .string ns[k].S) hv
    obtain ⟨v, hv⟩ := setCell_thereN (o' := k * 6 + 4) (v := .string ns[k].T) hv
    exact setCell_thereN hv
  · rw [take_snocN ns k hk] at hx
    have hl : (ns.take k).length = k := by simp; omega
    by_cases hi : i < k
    · rw [List.getElem?_append_left (by omega)] at hx
      obtain ⟨⟨e0, e1, e2, e3, e4⟩, kg', e5, e6, e7, e8⟩ := h.held i x hx
      refine ⟨⟨?_, ?_, ?_, ?_, ?_⟩, kg', ?_, e6, by rw [hsz]; exact e7, fun j y hy => ?_⟩
      · rw [putNode_else (by omega)]; exact e0
      · rw [putNode_else (by omega)]; exact e1
      · rw [putNode_else (by omega)]; exact e2
      · rw [putNode_else (by omega)]; exact e3
      · rw [putNode_else (by omega)]; exact e4
      · rw [putNode_else (by omega)]; exact e5
      · rw [putNode_far (by omega)]; exact e8 j y hy
    · obtain rfl : i = k := by
        have := (List.getElem?_eq_some_iff.1 hx).1
        simp at this; omega
      rw [List.getElem?_append_right (by omega)] at hx
      simp [hl] at hx
      subst hx
      simp only [Nat.zero_add]
      obtain ⟨v0, c0⟩ := hi6 0 (by omega)
      obtain ⟨v1, c1⟩ := hi6 1 (by omega)
      obtain ⟨v2, c2⟩ := hi6 2 (by omega)
      obtain ⟨v3, c3⟩ := hi6 3 (by omega)
      obtain ⟨v4, c4⟩ := hi6 4 (by omega)
      obtain ⟨v5, c5⟩ := hi6 5 (by omega)
      refine ⟨⟨?_, ?_, ?_, ?_, ?_⟩, kg, ?_, h1, by rw [hsz]; exact h2, fun j y hy => ?_⟩
      · unfold putNode
        rw [setCell_otherN (by omega), setCell_otherN (by omega), setCell_otherN (by omega), setCell_otherN (by omega), setCell_otherN (by omega)]
        exact World.cell?_setCell_same _ _ _ c0
      · unfold putNode
        rw [setCell_otherN (by omega), setCell_otherN (by omega), setCell_otherN (by omega), setCell_otherN (by omega)]
        exact World.cell?_setCell_same _ _ _ (by rw [setCell_otherN (by omega)]; exact c1)
      · unfold putNode
        rw [setCell_otherN (by omega), setCell_otherN (by omega), setCell_otherN (by omega)]
        exact World.cell?_setCell_same _ _ _ (by rw [setCell_otherN (by omega), setCell_otherN (by omega)]; exact c2)
      · unfold putNode
        rw [setCell_otherN (by omega), setCell_otherN (by omega)]
        exact World.cell?_setCell_same _ _ _ (by rw [setCell_otherN (by omega), setCell_otherN (by omega), setCell_otherN (by omega)]; exact c3)
      · unfold putNode
        rw [setCell_otherN (by omega)]
        exact World.cell?_setCell_same _ _ _ (by rw [setCell_otherN (by omega), setCell_otherN (by omega), setCell_otherN (by omega), setCell_otherN (by omega)]; exact c4)
      · unfold putNode
        exact World.cell?_setCell_same _ _ _ (by rw [setCell_otherN (by omega), setCell_otherN (by omega), setCell_otherN (by omega), setCell_otherN (by omega), setCell_otherN (by omega)]; exact c5)
      · rw [putNode_far (by omega)]; exact h3 j y hy
end Go.Proofs.YtbbjhepagkkjeaaGreatDoor
namespace Go.Proofs.YtbbjhepagkkjeaaGreatDoor
open Go Go.RowKit
structure Tb where
  Name : ByteArray
  Cols : Int
  Rows : List (List V2)
def IsTables (w : World) (v : Value) (ts : List Tb) : Prop :=
  (ts = [] ∧ ∃ a cap, v = .slice a 0 cap) ∨ ∃ g off cap, v = .slice (some ⟨g, off, none⟩) ts.length cap ∧ g < w.heap.size ∧
    ∀ i t, ts[i]? = some t → w.cell? ⟨g, off + i * 3, none⟩ = some (.string t.Name) ∧ w.cell? ⟨g, off + i * 3 + 1, none⟩ = some (.int .i64 t.Cols) ∧
      ∃ u, w.cell? ⟨g, off + i * 3 + 2, none⟩ = some u ∧ IsRows w u t.Rows
theorem IsTables.of {w w1 : World} {v : Value} {ts : List Tb} (h : IsTables w v ts) (hb : Below w.heap.size w w1) : IsTables w1 v ts := by
  rcases h with h | ⟨g, off, cap, h1, h2, h3⟩
  · exact Or.inl h
  · refine Or.inr ⟨g, off, cap, h1, Nat.lt_of_lt_of_le h2 hb.size, fun i t ht => ?_⟩
    obtain ⟨c0, c1, u, c2, hu⟩ := h3 i t ht
    exact ⟨(hb.cell (p := ⟨g, off + i * 3, none⟩) h2).trans c0, (hb.cell (p := ⟨g, off + i * 3 + 1, none⟩) h2).trans c1, u, (hb.cell (p := ⟨g, off + i * 3 + 2, none⟩) h2).trans c2, hu.of hb⟩
def MadeRows (w : World) (g G : Nat) (xss : List (List V2)) : Prop :=
  g < G ∧ G < w.heap.size ∧ ∃ rs : List R3, rs.map (fun r : R3 => r.2.2) = xss ∧ GridAt w G 0 rs ∧ RowsOk w rs ∧ ∀ r ∈ rs, G < r.1
theorem MadeRows.of {w w1 : World} {g G : Nat} {xss : List (List V2)} (h : MadeRows w g G xss) (hb : Below w.heap.size w w1) : MadeRows w1 g G xss := by
  obtain ⟨h1, h2, rs, h3, h4, h5, h6⟩ := h
  exact ⟨h1, Nat.lt_of_lt_of_le h2 hb.size, rs, h3, h4.of h2 hb, h5.of hb, h6⟩
theorem GridAt.far {w : World} {G off : Nat} {rs : List R3} (h : GridAt w G off rs) {X O : Nat} (hne : X ≠ G) (v : Value) : GridAt (w.setCell ⟨X, O, none⟩ v) G off rs := fun i r hr => by
  rw [setCell_far hne]
  exact h i r hr
theorem MadeRows.far {w : World} {g G : Nat} {xss : List (List V2)} (h : MadeRows w g G xss) {X O : Nat} (hX : X ≤ g) (v : Value) : MadeRows (w.setCell ⟨X, O, none⟩ v) g G xss := by
  obtain ⟨h1, h2, rs, h3, h4, h5, h6⟩ := h
  exact ⟨h1, by simpa using h2, rs, h3, h4.far (by omega) v, h5.far (fun r hr => by have := h6 r hr; omega) v, h6⟩
def TablesAt (w : World) (g off : Nat) (ts : List Tb) : Prop := ∀ i t, ts[i]? = some t → w.cell? ⟨g, off + i * 3, none⟩ = some (.string t.Name) ∧ w.cell? ⟨g, off + i * 3 + 1, none⟩ = some (.int .i64 t.Cols) ∧
  ∃ G, w.cell? ⟨g, off + i * 3 + 2, none⟩ = some (.slice (some ⟨G, 0, none⟩) t.Rows.length t.Rows.length) ∧ MadeRows w g G t.Rows
theorem TablesAt.of {w w1 : World} {g off : Nat} {ts : List Tb} (h : TablesAt w g off ts) (hg : g < w.heap.size) (hb : Below w.heap.size w w1) : TablesAt w1 g off ts := fun i t ht => by
  obtain ⟨c0, c1, G, c2, hG⟩ := h i t ht
  exact ⟨(hb.cell (p := ⟨g, off + i * 3, none⟩) hg).trans c0, (hb.cell (p := ⟨g, off + i * 3 + 1, none⟩) hg).trans c1, G, (hb.cell (p := ⟨g, off + i * 3 + 2, none⟩) hg).trans c2, hG.of hb⟩
theorem TablesAt.at {w : World} {g off : Nat} {ts : List Tb} (h : TablesAt w g off ts) (i : Nat) (hi : i < ts.length) : w.cell? ⟨g, off + i * 3, none⟩ = some (.string (ts[i]).Name) ∧ w.cell? ⟨g, off + i * 3 + 1, none⟩ = some (.int .i64 (ts[i]).Cols) ∧
  ∃ G, w.cell? ⟨g, off + i * 3 + 2, none⟩ = some (.slice (some ⟨G, 0, none⟩) (ts[i]).Rows.length (ts[i]).Rows.length) ∧ MadeRows w g G (ts[i]).Rows := h i ts[i] (by simp [hi])
theorem TablesAt.far {w : World} {g off : Nat} {ts : List Tb} (h : TablesAt w g off ts) {X O : Nat} (hX : X < g) (v : Value) : TablesAt (w.setCell ⟨X, O, none⟩ v) g off ts := fun i t ht => by
  obtain ⟨c0, c1, G, c2, hG⟩ := h i t ht
  refine ⟨?_, ?_, G, ?_, hG.far (Nat.le_of_lt hX) v⟩
  · rw [setCell_far (by omega)]; exact c0
  · rw [setCell_far (by omega)]; exact c1
  · rw [setCell_far (by omega)]; exact c2
theorem MadeRows.row {w : World} {g G : Nat} {xss : List (List V2)} (h : MadeRows w g G xss) (i : Nat) (hi : i < xss.length) : ∃ r : R3, w.cell? ⟨G, i, none⟩ = some (rv r) ∧ r.2.2 = xss[i] ∧ RowAt w r.1 0 r.2.2 ∧ r.1 < w.heap.size ∧ G < r.1 ∧ r.2.2.length ≤ r.2.1 := by
  obtain ⟨h1, h2, rs, h3, h4, h5, h6⟩ := h
  have hl : rs.length = xss.length := by rw [← h3]; simp
  have hi' : i < rs.length := by omega
  have hm : rs[i] ∈ rs := List.getElem_mem hi'
  refine ⟨rs[i], ?_, ?_, (h5 _ hm).1.held, (h5 _ hm).1.size, h6 _ hm, (h5 _ hm).2⟩
  · have := h4 i rs[i] (List.getElem?_eq_getElem hi')
    simpa using this
  · have : (rs.map (fun r : R3 => r.2.2))[i]'(by simpa using hi') = xss[i] := by simp only [h3]
    simpa using this
structure OwnTables (w : World) (g n : Nat) (ts : List Tb) : Prop where
  size : g < w.heap.size
  frz : ∀ o, w.frozen? ⟨g, o, none⟩ = false
  all : ∀ o, o < n * 3 → ∃ v, w.cell? ⟨g, o, none⟩ = some v
  held : TablesAt w g 0 ts
theorem OwnTables.of {w w1 : World} {g n : Nat} {ts : List Tb} (h : OwnTables w g n ts) (hb : Below w.heap.size w w1) : OwnTables w1 g n ts :=
  ⟨Nat.lt_of_lt_of_le h.size hb.size, fun o => (hb.frozen (p := ⟨g, o, none⟩) h.size).trans (h.frz o), fun o ho => by
    obtain ⟨v, hv⟩ := h.all o ho
    exact ⟨v, (hb.cell (p := ⟨g, o, none⟩) h.size).trans hv⟩, h.held.of h.size hb⟩
theorem OwnTables.made (w : World) (n : Nat) (C : Array Value) (t : TypeId) (hC : C.size = n * 3) : OwnTables (w.alloc (.cells C t)) w.heap.size n [] :=
  ⟨by simp, fun o => by simp [go_sem], fun o ho => ⟨C[o]'(by omega), by rw [World.cell?_alloc_at C t _ o rfl]; simp⟩, fun i x hx => by simp at hx⟩
def putTable (w : World) (g o : Nat) (t : Tb) (G : Nat) : World :=
  ((w.setCell ⟨g, o, none⟩ (.string t.Name)).setCell ⟨g, o + 1, none⟩ (.int .i64 t.Cols)).setCell ⟨g, o + 2, none⟩ (.slice (some ⟨G, 0, none⟩) t.Rows.length t.Rows.length)
theorem OwnTables.put {w : World} {g n k : Nat} {ts : List Tb} (h : OwnTables w g n (ts.take k)) (hk : k < ts.length) (hn : k < n) (G : Nat) (hG : MadeRows w g G (ts[k]).Rows) :
    OwnTables (putTable w g (k * 3) ts[k] G) g n (ts.take (k + 1)) := by
  refine ⟨by simpa [putTable] using h.size, fun o => by unfold putTable; simp only [frozen_setCell]; exact h.frz o, fun o ho => ?_, fun i x hx => ?_⟩
  · obtain ⟨v, hv⟩ := h.all o ho
    unfold putTable
    obtain ⟨v, hv⟩ := setCell_there (o' := k * 3) (v := .string (ts[k]).Name) hv
    obtain ⟨v, hv⟩ := setCell_there (o' := k * 3 + 1) (v := .int .i64 (ts[k]).Cols) hv
    exact setCell_there hv
  · rw [take_snoc ts k hk] at hx
    have hl : (ts.take k).length = k := by simp; omega
    unfold putTable
    by_cases hi : i < k
    · rw [List.getElem?_append_left (by omega)] at hx
      obtain ⟨c0, c1, G', c2, hG'⟩ := h.held i x hx
      refine ⟨?_, ?_, G', ?_, ((hG'.far (Nat.le_refl _) _).far (Nat.le_refl _) _).far (Nat.le_refl _) _⟩
      · rw [setCell_other (by omega), setCell_other (by omega), setCell_other (by omega)]; exact c0
      · rw [setCell_other (by omega), setCell_other (by omega), setCell_other (by omega)]; exact c1
      · rw [setCell_other (by omega), setCell_other (by omega), setCell_other (by omega)]; exact c2
    · obtain rfl : i = k := by
        have := (List.getElem?_eq_some_iff.1 hx).1
        simp at this; omega
      rw [List.getElem?_append_right (by omega)] at hx
      simp [hl] at hx
      subst hx
      simp only [Nat.zero_add]
      obtain ⟨v0, c0⟩ := h.all (i * 3) (by omega)
      obtain ⟨v1, c1⟩ := h.all (i * 3 + 1) (by omega)
      obtain ⟨v2, c2⟩ := h.all (i * 3 + 2) (by omega)
      refine ⟨?_, ?_, G, ?_, ((hG.far (Nat.le_refl _) _).far (Nat.le_refl _) _).far (Nat.le_refl _) _⟩
      · rw [setCell_other (by omega), setCell_other (by omega)]; exact World.cell?_setCell_same _ _ _ c0
      · rw [setCell_other (by omega)]; exact World.cell?_setCell_same _ _ _ (by rw [setCell_other (by omega)]; exact c1)
      · exact World.cell?_setCell_same _ _ _ (by rw [setCell_other (by omega), setCell_other (by omega)]; exact c2)
def bulkT : List Tb → Nat
  | [] => 0
  | t :: r => t.Name.size + (t.Rows.length + bulk t.Rows) + bulkT r
theorem bulkT_append (a b : List Tb) : bulkT (a ++ b) = bulkT a + bulkT b := by
  induction a with
  | nil => simp [bulkT]
  | cons x a ih => simp only [List.cons_append, bulkT, ih]; omega
theorem bulkT_take_le (ts : List Tb) (k : Nat) : bulkT (ts.take k) ≤ bulkT ts := by
  have := bulkT_append (ts.take k) (ts.drop k)
  rw [List.take_append_drop] at this
  omega
theorem bulkT_mem {ts : List Tb} {t : Tb} (h : t ∈ ts) : t.Name.size + (t.Rows.length + bulk t.Rows) ≤ bulkT ts := by
  induction ts with
  | nil => cases h
  | cons x r ih =>
    simp only [bulkT]
    cases List.mem_cons.1 h with
    | inl e => subst e; omega
    | inr e => have := ih e; omega
end Go.Proofs.YtbbjhepagkkjeaaGreatDoor
namespace Go.Proofs.YtbbjhepagkkjeaaGreatDoor
open Go Go.RowKit
structure ButB (S : Nat → Prop) (w w' : World) : Prop where
  os : w'.os = w.os
  tape : w'.tape = w.tape
  output : w'.output = w.output
  size : w.heap.size ≤ w'.heap.size
  block : ∀ k, k < w.heap.size → ¬ S k → w'.heap[k]? = w.heap[k]?
theorem ButB.refl (S : Nat → Prop) (w : World) : ButB S w w := ⟨rfl, rfl, rfl, Nat.le_refl _, fun _ _ _ => rfl⟩
theorem ButB.trans {S : Nat → Prop} {w w1 w2 : World} (h : ButB S w w1) (h' : ButB S w1 w2) : ButB S w w2 :=
  ⟨h'.os.trans h.os, h'.tape.trans h.tape, h'.output.trans h.output, Nat.le_trans h.size h'.size, fun k hk hs => (h'.block k (Nat.lt_of_lt_of_le hk h.size) hs).trans (h.block k hk hs)⟩
theorem ButB.mono {S T : Nat → Prop} {w w1 : World} (h : ButB S w w1) (hs : ∀ b, S b → T b) : ButB T w w1 := ⟨h.os, h.tape, h.output, h.size, fun k hk ht => h.block k hk (fun e => ht (hs k e))⟩
theorem ButB.ofBelow {S : Nat → Prop} {w w1 : World} (h : Below w.heap.size w w1) : ButB S w w1 := ⟨h.os, h.tape, h.output, h.size, fun k hk _ => h.block k hk⟩
theorem ButB.below {S : Nat → Prop} {w w1 : World} (h : ButB S w w1) {B : Nat} (hB : B ≤ w.heap.size) (hs : ∀ b, S b → B ≤ b) : Below B w w1 := ⟨h.os, h.tape, h.output, h.size, fun k hk => h.block k (by omega) (fun e => by have := hs k e; omega)⟩
theorem ButB.grown {S : Nat → Prop} {w w1 : World} {row : Option Nat} (hg : w.grownBy w1 row) (hr : ∀ b, row = some b → S b) : ButB S w w1 := ⟨hg.os, hg.tape, hg.output, hg.size, fun k hk hs => hg.block k hk (fun e => hs (hr k e.symm))⟩
theorem ButB.set {S : Nat → Prop} {w w1 : World} (h : ButB S w w1) {g o : Nat} (hg : S g ∨ w.heap.size ≤ g) (v : Value) : ButB S w (w1.setCell ⟨g, o, none⟩ v) := by
  have hb : Below g w1 (w1.setCell ⟨g, o, none⟩ v) := (Below.refl g w1).setCell (p := ⟨g, o, none⟩) (Nat.le_refl _) v
  exact ⟨hb.os.trans h.os, hb.tape.trans h.tape, hb.output.trans h.output, Nat.le_trans h.size hb.size, fun k hk hs => by
    rw [Below.heap_setCell w1 ⟨g, o, none⟩ v k (by dsimp only; intro e; subst e; exact hg.elim hs (fun h1 => absurd hk (by omega)))]
    exact h.block k hk hs⟩
theorem ButB.cell {S : Nat → Prop} {w w1 : World} (h : ButB S w w1) (b o : Nat) (hb : b < w.heap.size) (hs : ¬ S b) : w1.cell? ⟨b, o, none⟩ = w.cell? ⟨b, o, none⟩ := World.cell?_of_block (a := ⟨b, o, none⟩) (h.block b hb hs)
theorem ButB.frz {S : Nat → Prop} {w w1 : World} (h : ButB S w w1) (b o : Nat) (hb : b < w.heap.size) (hs : ¬ S b) : w1.frozen? ⟨b, o, none⟩ = w.frozen? ⟨b, o, none⟩ := World.frozen?_of_block (a := ⟨b, o, none⟩) (h.block b hb hs)
end Go.Proofs.YtbbjhepagkkjeaaGreatDoor
