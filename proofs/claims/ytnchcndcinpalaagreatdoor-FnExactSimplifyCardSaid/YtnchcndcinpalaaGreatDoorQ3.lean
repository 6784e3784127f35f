import Derived.Test.YtnchcndcinpalaaGreatDoorQ2
import Derived.Test.YtnchcndcinpalaaGreatDoorQ1
/-
  PLANS IN MEMORY, of no program. A node has seven cells: K, T, M, the slice Ex, the slice of slices Exs, L, R.
-/
namespace Go.Proofs.YtnchcndcinpalaaGreatDoor
open Go Go.RowKit

structure Pn where
  K : Int
  T : Int
  M : Int
  Ex : List O2
  Exs : List (List O2)
  L : Int
  R : Int

/-- an argument: a slice of slices of Ops -/
def IsOpss (w : World) (v : Value) (oss : List (List O2)) : Prop :=
  (oss = [] ∧ ∃ a cap, v = .slice a 0 cap) ∨ ∃ g off cap, v = .slice (some ⟨g, off, none⟩) oss.length cap ∧ g < w.heap.size ∧ ∀ i xs, oss[i]? = some xs → ∃ u, w.cell? ⟨g, off + i, none⟩ = some u ∧ IsOps w u xs
theorem IsOpss.of {w w1 : World} {v : Value} {oss : List (List O2)} (h : IsOpss w v oss) (hb : Below w.heap.size w w1) : IsOpss w1 v oss := by
  rcases h with h | ⟨g, off, cap, h1, h2, h3⟩
  · exact Or.inl h
  · refine Or.inr ⟨g, off, cap, h1, Nat.lt_of_lt_of_le h2 hb.size, fun i xs hx => ?_⟩
    obtain ⟨u, hu, hr⟩ := h3 i xs hx
    exact ⟨u, (hb.cell (p := ⟨g, off + i, none⟩) h2).trans hu, hr.of hb⟩
theorem isOps_slice {w : World} {v : Value} {xs : List O2} (hv : IsOps w v xs) : ∃ a cap, v = .slice a xs.length cap := by
  rcases hv with ⟨rfl, a, cap, rfl⟩ | ⟨g, off, cap, rfl, _⟩
  · exact ⟨a, cap, rfl⟩
  · exact ⟨_, cap, rfl⟩
theorem isOpss_slice {w : World} {v : Value} {oss : List (List O2)} (hv : IsOpss w v oss) : ∃ a cap, v = .slice a oss.length cap := by
  rcases hv with ⟨rfl, a, cap, rfl⟩ | ⟨g, off, cap, rfl, _⟩
  · exact ⟨a, cap, rfl⟩
  · exact ⟨_, cap, rfl⟩
theorem OpsAt.far {w : World} {g off : Nat} {xs : List O2} (h : OpsAt w g off xs) {X O : Nat} (hne : X ≠ g) (v : Value) : OpsAt (w.setCell ⟨X, O, none⟩ v) g off xs := fun i x hx => by
  rw [setCell_farN hne, setCell_farN hne]
  exact h i x hx
/-- rows of Ops of the call's own making -/
def OpssAt (w : World) (G : Nat) (oss : List (List O2)) : Prop := ∀ i xs, oss[i]? = some xs → ∃ b, w.cell? ⟨G, i, none⟩ = some (.slice (some ⟨b, 0, none⟩) xs.length xs.length) ∧ G < b ∧ b < w.heap.size ∧ OpsAt w b 0 xs
theorem OpssAt.of {w w1 : World} {G : Nat} {oss : List (List O2)} (h : OpssAt w G oss) (hg : G < w.heap.size) (hb : Below w.heap.size w w1) : OpssAt w1 G oss := fun i xs hx => by
  obtain ⟨b, h1, h2, h3, h4⟩ := h i xs hx
  exact ⟨b, (hb.cell (p := ⟨G, i, none⟩) hg).trans h1, h2, Nat.lt_of_lt_of_le h3 hb.size, h4.of h3 hb⟩
theorem OpssAt.far {w : World} {G : Nat} {oss : List (List O2)} (h : OpssAt w G oss) {X O : Nat} (hX : X < G) (v : Value) : OpssAt (w.setCell ⟨X, O, none⟩ v) G oss := fun i xs hx => by
  obtain ⟨b, h1, h2, h3, h4⟩ := h i xs hx
  exact ⟨b, by rw [setCell_farN (by omega)]; exact h1, h2, by simpa using h3, h4.far (by omega) v⟩
structure OwnOpss (w : World) (G n : Nat) (oss : List (List O2)) : Prop where
  size : G < w.heap.size
  frz : ∀ o, w.frozen? ⟨G, o, none⟩ = false
  all : ∀ o, o < n → ∃ v, w.cell? ⟨G, o, none⟩ = some v
  held : OpssAt w G oss
theorem OwnOpss.of {w w1 : World} {G n : Nat} {oss : List (List O2)} (h : OwnOpss w G n oss) (hb : Below w.heap.size w w1) : OwnOpss w1 G n oss :=
  ⟨Nat.lt_of_lt_of_le h.size hb.size, fun o => (hb.frozen (p := ⟨G, o, none⟩) h.size).trans (h.frz o), fun o ho => by
    obtain ⟨v, hv⟩ := h.all o ho
    exact ⟨v, (hb.cell (p := ⟨G, o, none⟩) h.size).trans hv⟩, h.held.of h.size hb⟩
theorem OwnOpss.made (w : World) (n : Nat) (C : Array Value) (t : TypeId) (hC : C.size = n) : OwnOpss (w.alloc (.cells C t)) w.heap.size n [] :=
  ⟨by simp, fun o => by simp [go_sem], fun o ho => ⟨C[o]'(by omega), by rw [World.cell?_alloc_at C t _ o rfl]; simp⟩, fun i x hx => by simp at hx⟩
theorem OwnOpss.put {w : World} {G n k : Nat} {oss : List (List O2)} (h : OwnOpss w G n (oss.take k)) (hk : k < oss.length) (hn : k < n) (b : Nat) (h1 : G < b) (h2 : b < w.heap.size) (h3 : OpsAt w b 0 oss[k]) :
    OwnOpss (w.setCell ⟨G, k, none⟩ (.slice (some ⟨b, 0, none⟩) (oss[k]).length (oss[k]).length)) G n (oss.take (k + 1)) := by
  refine ⟨by simpa using h.size, fun o => by rw [frozen_setCellN]; exact h.frz o, fun o ho => ?_, fun i x hx => ?_⟩
  · obtain ⟨v, hv⟩ := h.all o ho
    exact setCell_thereN hv
  · rw [take_snocN oss k hk] at hx
    have hl : (oss.take k).length = k := by simp; omega
    by_cases hi : i < k
    · rw [List.getElem?_append_left (by omega)] at hx
      obtain ⟨b', e1, e2, e3, e4⟩ := h.held i x hx
      exact ⟨b', by rw [setCell_otherN (by omega)]; exact e1, e2, by simpa using e3, e4.far (by omega) _⟩
    · obtain rfl : i = k := by
        have := (List.getElem?_eq_some_iff.1 hx).1
        simp at this; omega
      rw [List.getElem?_append_right (by omega)] at hx
      simp [hl] at hx
      subst hx
      obtain ⟨v0, c0⟩ := h.all i hn
      exact ⟨b, World.cell?_setCell_same _ _ _ c0, h1, by simpa using h2, h3.far (by omega) _⟩

/-- an argument: a slice of nodes -/
def IsPns (w : World) (v : Value) (ps : List Pn) : Prop :=
  (ps = [] ∧ ∃ a cap, v = .slice a 0 cap) ∨ ∃ g off cap, v = .slice (some ⟨g, off, none⟩) ps.length cap ∧ g < w.heap.size ∧
    ∀ i p, ps[i]? = some p → w.cell? ⟨g, off + i * 7, none⟩ = some (.int .i64 p.K) ∧ w.cell? ⟨g, off + i * 7 + 1, none⟩ = some (.int .i64 p.T) ∧ w.cell? ⟨g, off + i * 7 + 2, none⟩ = some (.int .i64 p.M) ∧
      w.cell? ⟨g, off + i * 7 + 5, none⟩ = some (.int .i64 p.L) ∧ w.cell? ⟨g, off + i * 7 + 6, none⟩ = some (.int .i64 p.R) ∧
      (∃ u, w.cell? ⟨g, off + i * 7 + 3, none⟩ = some u ∧ IsOps w u p.Ex) ∧ ∃ u, w.cell? ⟨g, off + i * 7 + 4, none⟩ = some u ∧ IsOpss w u p.Exs
theorem IsPns.of {w w1 : World} {v : Value} {ps : List Pn} (h : IsPns w v ps) (hb : Below w.heap.size w w1) : IsPns w1 v ps := by
  rcases h with h | ⟨g, off, cap, h1, h2, h3⟩
  · exact Or.inl h
  · refine Or.inr ⟨g, off, cap, h1, Nat.lt_of_lt_of_le h2 hb.size, fun i p hp => ?_⟩
    obtain ⟨c0, c1, c2, c5, c6, ⟨u, c3, hu⟩, u', c4, hu'⟩ := h3 i p hp
    exact ⟨(hb.cell (p := ⟨g, off + i * 7, none⟩) h2).trans c0, (hb.cell (p := ⟨g, off + i * 7 + 1, none⟩) h2).trans c1, (hb.cell (p := ⟨g, off + i * 7 + 2, none⟩) h2).trans c2, (hb.cell (p := ⟨g, off + i * 7 + 5, none⟩) h2).trans c5, (hb.cell (p := ⟨g, off + i * 7 + 6, none⟩) h2).trans c6,
      ⟨u, (hb.cell (p := ⟨g, off + i * 7 + 3, none⟩) h2).trans c3, hu.of hb⟩, u', (hb.cell (p := ⟨g, off + i * 7 + 4, none⟩) h2).trans c4, hu'.of hb⟩
theorem isPns_slice {w : World} {v : Value} {ps : List Pn} (hv : IsPns w v ps) : ∃ a cap, v = .slice a ps.length cap := by
  rcases hv with ⟨rfl, a, cap, rfl⟩ | ⟨g, off, cap, rfl, _⟩
  · exact ⟨a, cap, rfl⟩
  · exact ⟨_, cap, rfl⟩

/-- nodes of the call's own making -/
structure PnAt (w : World) (g o : Nat) (p : Pn) : Prop where
  c0 : w.cell? ⟨g, o, none⟩ = some (.int .i64 p.K)
  c1 : w.cell? ⟨g, o + 1, none⟩ = some (.int .i64 p.T)
  c2 : w.cell? ⟨g, o + 2, none⟩ = some (.int .i64 p.M)
  c5 : w.cell? ⟨g, o + 5, none⟩ = some (.int .i64 p.L)
  c6 : w.cell? ⟨g, o + 6, none⟩ = some (.int .i64 p.R)
  ex : ∃ b, w.cell? ⟨g, o + 3, none⟩ = some (.slice (some ⟨b, 0, none⟩) p.Ex.length p.Ex.length) ∧ g < b ∧ b < w.heap.size ∧ OpsAt w b 0 p.Ex
  exs : ∃ b, w.cell? ⟨g, o + 4, none⟩ = some (.slice (some ⟨b, 0, none⟩) p.Exs.length p.Exs.length) ∧ g < b ∧ b < w.heap.size ∧ OpssAt w b p.Exs
theorem PnAt.of {w w1 : World} {g o : Nat} {p : Pn} (h : PnAt w g o p) (hg : g < w.heap.size) (hb : Below w.heap.size w w1) : PnAt w1 g o p := by
  obtain ⟨c0, c1, c2, c5, c6, ⟨b, c3, e1, e2, e3⟩, b', c4, f1, f2, f3⟩ := h
  exact ⟨(hb.cell (p := ⟨g, o, none⟩) hg).trans c0, (hb.cell (p := ⟨g, o + 1, none⟩) hg).trans c1, (hb.cell (p := ⟨g, o + 2, none⟩) hg).trans c2, (hb.cell (p := ⟨g, o + 5, none⟩) hg).trans c5, (hb.cell (p := ⟨g, o + 6, none⟩) hg).trans c6,
    ⟨b, (hb.cell (p := ⟨g, o + 3, none⟩) hg).trans c3, e1, Nat.lt_of_lt_of_le e2 hb.size, e3.of e2 hb⟩, b', (hb.cell (p := ⟨g, o + 4, none⟩) hg).trans c4, f1, Nat.lt_of_lt_of_le f2 hb.size, f3.of f2 hb⟩
theorem PnAt.far {w : World} {g o : Nat} {p : Pn} (h : PnAt w g o p) {X O : Nat} (hX : X < g ∨ (X = g ∧ (O < o ∨ o + 6 < O))) (v : Value) : PnAt (w.setCell ⟨X, O, none⟩ v) g o p := by
  have hk : ∀ k, k ≤ 6 → (w.setCell ⟨X, O, none⟩ v).cell? ⟨g, o + k, none⟩ = w.cell? ⟨g, o + k, none⟩ := fun k hk => by
    rcases hX with h | ⟨rfl, h⟩
    · rw [setCell_farN (by omega)]
    · rw [setCell_otherN (by omega)]
  have h0 := hk 0 (by omega)
  rw [Nat.add_zero] at h0
  obtain ⟨c0, c1, c2, c5, c6, ⟨b, c3, e1, e2, e3⟩, b', c4, f1, f2, f3⟩ := h
  exact ⟨h0.trans c0, (hk 1 (by omega)).trans c1, (hk 2 (by omega)).trans c2, (hk 5 (by omega)).trans c5, (hk 6 (by omega)).trans c6, ⟨b, (hk 3 (by omega)).trans c3, e1, by simpa using e2, e3.far (by omega) v⟩, b', (hk 4 (by omega)).trans c4, f1, by simpa using f2, f3.far (by omega) v⟩
def PnsAt (w : World) (g off : Nat) (ps : List Pn) : Prop := ∀ i p, ps[i]? = some p → PnAt w g (off + i * 7) p
theorem PnsAt.of {w w1 : World} {g off : Nat} {ps : List Pn} (h : PnsAt w g off ps) (hg : g < w.heap.size) (hb : Below w.heap.size w w1) : PnsAt w1 g off ps := fun i p hp => (h i p hp).of hg hb
theorem PnsAt.far {w : World} {g off : Nat} {ps : List Pn} (h : PnsAt w g off ps) {X O : Nat} (hX : X < g) (v : Value) : PnsAt (w.setCell ⟨X, O, none⟩ v) g off ps := fun i p hp => (h i p hp).far (Or.inl hX) v
theorem PnsAt.at {w : World} {g off : Nat} {ps : List Pn} (h : PnsAt w g off ps) (i : Nat) (hi : i < ps.length) : PnAt w g (off + i * 7) ps[i] := h i ps[i] (by simp [hi])
structure OwnPns (w : World) (g n : Nat) (ps : List Pn) : Prop where
  size : g < w.heap.size
  frz : ∀ o, w.frozen? ⟨g, o, none⟩ = false
  all : ∀ o, o < n * 7 → ∃ v, w.cell? ⟨g, o, none⟩ = some v
  held : PnsAt w g 0 ps
theorem OwnPns.of {w w1 : World} {g n : Nat} {ps : List Pn} (h : OwnPns w g n ps) (hb : Below w.heap.size w w1) : OwnPns w1 g n ps :=
  ⟨Nat.lt_of_lt_of_le h.size hb.size, fun o => (hb.frozen (p := ⟨g, o, none⟩) h.size).trans (h.frz o), fun o ho => by
    obtain ⟨v, hv⟩ := h.all o ho
    exact ⟨v, (hb.cell (p := ⟨g, o, none⟩) h.size).trans hv⟩, h.held.of h.size hb⟩
theorem OwnPns.made (w : World) (n : Nat) (C : Array Value) (t : TypeId) (hC : C.size = n * 7) : OwnPns (w.alloc (.cells C t)) w.heap.size n [] :=
  ⟨by simp, fun o => by simp [go_sem], fun o ho => ⟨C[o]'(by omega), by rw [World.cell?_alloc_at C t _ o rfl]; simp⟩, fun i x hx => by simp at hx⟩
def putPn (w : World) (g o : Nat) (p : Pn) (b b' : Nat) : World :=
  ((((((w.setCell ⟨g, o, none⟩ (.int .i64 p.K)).setCell ⟨g, o + 1, none⟩ (.int .i64 p.T)).setCell ⟨g, o + 2, none⟩ (.int .i64 p.M)).setCell ⟨g, o + 3, none⟩ (.slice (some ⟨b, 0, none⟩) p.Ex.length p.Ex.length)).setCell ⟨g, o + 4, none⟩ (.slice (some ⟨b', 0, none⟩) p.Exs.length p.Exs.length)).setCell ⟨g, o + 5, none⟩ (.int .i64 p.L)).setCell ⟨g, o + 6, none⟩ (.int .i64 p.R)
theorem putPn_below {w0 w : World} {s : Nat} (h : Below s w0 w) {g o : Nat} (hg : s ≤ g) (p : Pn) (b b' : Nat) : Below s w0 (putPn w g o p b b') :=
  ((((((h.setCell (p := ⟨g, o, none⟩) hg _).setCell (p := ⟨g, o + 1, none⟩) hg _).setCell (p := ⟨g, o + 2, none⟩) hg _).setCell (p := ⟨g, o + 3, none⟩) hg _).setCell (p := ⟨g, o + 4, none⟩) hg _).setCell (p := ⟨g, o + 5, none⟩) hg _).setCell (p := ⟨g, o + 6, none⟩) hg _
theorem OwnPns.put {w : World} {g n k : Nat} {ps : List Pn} (h : OwnPns w g n (ps.take k)) (hk : k < ps.length) (hn : k < n) (b b' : Nat) (h1 : g < b) (h2 : b < w.heap.size) (h3 : OpsAt w b 0 (ps[k]).Ex) (f1 : g < b') (f2 : b' < w.heap.size) (f3 : OpssAt w b' (ps[k]).Exs) :
    OwnPns (putPn w g (k * 7) ps[k] b b') g n (ps.take (k + 1)) := by
  have hsz : (putPn w g (k * 7) ps[k] b b').heap.size = w.heap.size := by simp [putPn]
  have hi7 : ∀ o, o < 7 → ∃ v, w.cell? ⟨g, k * 7 + o, none⟩ = some v := fun o ho => h.all _ (by omega)
  refine ⟨by rw [hsz]; exact h.size, fun o => by unfold putPn; simp only [frozen_setCellN]; exact h.frz o, fun o ho => ?_, fun i x hx => ?_⟩
  · obtain ⟨v, hv⟩ := h.all o ho
    unfold putPn
    obtain ⟨v, hv⟩ := setCell_thereN (o' := k * 7) (v := .int .i64 (ps[k]).K) hv
    obtain ⟨v, hv⟩ := setCell_thereN (o' := k * 7 + 1) (v := .int .i64 (ps[k]).T) hv
    obtain ⟨v, hv⟩ := setCell_thereN (o' := k * 7 + 2) (v := .int .i64 (ps[k]).M) hv
    obtain ⟨v, hv⟩ := setCell_thereN (o' := k * 7 + 3) (v := .slice (some ⟨b, 0, none⟩) (ps[k]).Ex.length (ps[k]).Ex.length) hv
    obtain ⟨v, hv⟩ := setCell_thereN (o' := k * 7 + 4) (v := .slice (some ⟨b', 0, none⟩) (ps[k]).Exs.length (ps[k]).Exs.length) hv
    obtain ⟨v, hv⟩ := setCell_thereN (o' := k * 7 + 5) (v := .int .i64 (ps[k]).L) hv
    exact setCell_thereN hv
  · rw [take_snocN ps k hk] at hx
    have hl : (ps.take k).length = k := by simp; omega
    by_cases hi : i < k
    · rw [List.getElem?_append_left (by omega)] at hx
      have := h.held i x hx
      unfold putPn
      exact ((((((this.far (Or.inr ⟨rfl, by omega⟩) _).far (Or.inr ⟨rfl, by omega⟩) _).far (Or.inr ⟨rfl, by omega⟩) _).far (Or.inr ⟨rfl, by omega⟩) _).far (Or.inr ⟨rfl, by omega⟩) _).far (Or.inr ⟨rfl, by omega⟩) _).far (Or.inr ⟨rfl, by omega⟩) _
    · obtain rfl : i = k := by
        have := (List.getElem?_eq_some_iff.1 hx).1
        simp at this; omega
      rw [List.getElem?_append_right (by omega)] at hx
      simp [hl] at hx
      subst hx
      simp only [Nat.zero_add]
      obtain ⟨v0, c0⟩ := hi7 0 (by omega)
      obtain ⟨v1, c1⟩ := hi7 1 (by omega)
      obtain ⟨v2, c2⟩ := hi7 2 (by omega)
      obtain ⟨v3, c3⟩ := hi7 3 (by omega)
      obtain ⟨v4, c4⟩ := hi7 4 (by omega)
      obtain ⟨v5, c5⟩ := hi7 5 (by omega)
      obtain ⟨v6, c6⟩ := hi7 6 (by omega)
      refine ⟨by unfold putPn; rw [setCell_otherN (by omega), setCell_otherN (by omega), setCell_otherN (by omega), setCell_otherN (by omega), setCell_otherN (by omega), setCell_otherN (by omega)]; exact World.cell?_setCell_same _ _ _ c0, by unfold putPn; rw [setCell_otherN (by omega), setCell_otherN (by omega), setCell_otherN (by omega), setCell_otherN (by omega), setCell_otherN (by omega)]; exact World.cell?_setCell_same _ _ _ (by rw [setCell_otherN (by omega)]; exact c1), by unfold putPn; rw [setCell_otherN (by omega), setCell_otherN (by omega), setCell_otherN (by omega), setCell_otherN (by omega)]; exact World.cell?_setCell_same _ _ _ (by rw [setCell_otherN (by omega), setCell_otherN (by omega)]; exact c2), by unfold putPn; rw [setCell_otherN (by omega)]; exact World.cell?_setCell_same _ _ _ (by rw [setCell_otherN (by omega), setCell_otherN (by omega), setCell_otherN (by omega), setCell_otherN (by omega), setCell_otherN (by omega)]; exact c5), by unfold putPn; exact World.cell?_setCell_same _ _ _ (by rw [setCell_otherN (by omega), setCell_otherN (by omega), setCell_otherN (by omega), setCell_otherN (by omega), setCell_otherN (by omega), setCell_otherN (by omega)]; exact c6), ⟨b, by unfold putPn; rw [setCell_otherN (by omega), setCell_otherN (by omega), setCell_otherN (by omega)]; exact World.cell?_setCell_same _ _ _ (by rw [setCell_otherN (by omega), setCell_otherN (by omega), setCell_otherN (by omega)]; exact c3), h1, by rw [hsz]; exact h2, ?_⟩, b', by unfold putPn; rw [setCell_otherN (by omega), setCell_otherN (by omega)]; exact World.cell?_setCell_same _ _ _ (by rw [setCell_otherN (by omega), setCell_otherN (by omega), setCell_otherN (by omega), setCell_otherN (by omega)]; exact c4), f1, by rw [hsz]; exact f2, ?_⟩
      · unfold putPn
        exact ((((((h3.far (by omega) _).far (by omega) _).far (by omega) _).far (by omega) _).far (by omega) _).far (by omega) _).far (by omega) _
      · unfold putPn
        exact ((((((f3.far (by omega) _).far (by omega) _).far (by omega) _).far (by omega) _).far (by omega) _).far (by omega) _).far (by omega) _

/-- how much Ops hold, as the law counts it -/
def bulkO : List (List O2) → Nat
  | [] => 0
  | xs :: r => xs.length + bulkO r
theorem bulkO_append (a b : List (List O2)) : bulkO (a ++ b) = bulkO a + bulkO b := by
  induction a with
  | nil => simp [bulkO]
  | cons x a ih => simp only [List.cons_append, bulkO, ih]; omega
theorem bulkO_take (xss : List (List O2)) (k : Nat) (hk : k < xss.length) : bulkO (xss.take (k + 1)) = bulkO (xss.take k) + xss[k].length := by
  rw [take_snocN xss k hk, bulkO_append]; simp [bulkO]
theorem bulkO_take_le (xss : List (List O2)) (k : Nat) : bulkO (xss.take k) ≤ bulkO xss := by
  have := bulkO_append (xss.take k) (xss.drop k)
  rw [List.take_append_drop] at this
  omega
theorem bulkO_mem {xss : List (List O2)} {xs : List O2} (h : xs ∈ xss) : xs.length ≤ bulkO xss := by
  induction xss with
  | nil => cases h
  | cons x r ih =>
    simp only [bulkO]
    cases List.mem_cons.1 h with
    | inl e => subst e; omega
    | inr e => have := ih e; omega
def bulkP : List Pn → Nat
  | [] => 0
  | p :: r => p.Ex.length + (p.Exs.length + bulkO p.Exs) + bulkP r
theorem bulkP_append (a b : List Pn) : bulkP (a ++ b) = bulkP a + bulkP b := by
  induction a with
  | nil => simp [bulkP]
  | cons x a ih => simp only [List.cons_append, bulkP, ih]; omega
theorem bulkP_take (ps : List Pn) (k : Nat) (hk : k < ps.length) : bulkP (ps.take (k + 1)) = bulkP (ps.take k) + ((ps[k]).Ex.length + ((ps[k]).Exs.length + bulkO (ps[k]).Exs)) := by
  rw [take_snocN ps k hk, bulkP_append]; simp [bulkP]
theorem bulkP_take_le (ps : List Pn) (k : Nat) : bulkP (ps.take k) ≤ bulkP ps := by
  have := bulkP_append (ps.take k) (ps.drop k)
  rw [List.take_append_drop] at this
  omega
theorem bulkP_mem {ps : List Pn} {p : Pn} (h : p ∈ ps) : p.Ex.length + (p.Exs.length + bulkO p.Exs) ≤ bulkP ps := by
  induction ps with
  | nil => cases h
  | cons x r ih =>
    simp only [bulkP]
    cases List.mem_cons.1 h with
    | inl e => subst e; omega
    | inr e => have := ih e; omega
end Go.Proofs.YtnchcndcinpalaaGreatDoor
/-
  LISTS OF THE CALL's OWN THAT SHARE NOTHING: blocks are told apart by a label; marks written into lists of Ops.
-/
namespace Go.Proofs.YtnchcndcinpalaaGreatDoor
open Go Go.RowKit

/-- ALL BUT SOME BLOCKS are as they were -/
structure ButM (S : Nat → Prop) (w w' : World) : Prop where
  size : w.heap.size ≤ w'.heap.size
  cell : ∀ b o, b < w.heap.size → ¬ S b → w'.cell? ⟨b, o, none⟩ = w.cell? ⟨b, o, none⟩
  frz : ∀ b o, b < w.heap.size → w'.frozen? ⟨b, o, none⟩ = w.frozen? ⟨b, o, none⟩
  low : ∀ B, (∀ b, S b → B ≤ b) → B ≤ w.heap.size → Below B w w'
theorem ButM.refl (S : Nat → Prop) (w : World) : ButM S w w := ⟨Nat.le_refl _, fun _ _ _ _ => rfl, fun _ _ _ => rfl, fun _ _ _ => Below.refl _ _⟩
theorem ButM.trans {S : Nat → Prop} {w w1 w2 : World} (h : ButM S w w1) (h' : ButM S w1 w2) : ButM S w w2 :=
  ⟨Nat.le_trans h.size h'.size, fun b o hb hs => (h'.cell b o (Nat.lt_of_lt_of_le hb h.size) hs).trans (h.cell b o hb hs), fun b o hb => (h'.frz b o (Nat.lt_of_lt_of_le hb h.size)).trans (h.frz b o hb), fun B hB hs => (h.low B hB hs).trans (h'.low B hB (Nat.le_trans hs h.size))⟩
theorem ButM.mono {S T : Nat → Prop} {w w1 : World} (h : ButM S w w1) (hs : ∀ b, S b → T b) : ButM T w w1 :=
  ⟨h.size, fun b o hb hn => h.cell b o hb (fun hb' => hn (hs b hb')), h.frz, fun B hB hz => h.low B (fun b hb => hB b (hs b hb)) hz⟩
theorem ButM.set {S : Nat → Prop} {w w1 : World} (h : ButM S w w1) {g o : Nat} (hg : S g) (v : Value) : ButM S w (w1.setCell ⟨g, o, none⟩ v) :=
  ⟨by simpa using h.size, fun b o' hb hn => by rw [setCell_farN (fun (e : g = b) => hn (by rw [← e]; exact hg))]; exact h.cell b o' hb hn, fun b o' hb => by rw [frozen_setCellN]; exact h.frz b o' hb, fun B hB hs => (h.low B hB hs).setCell (hB g hg) v⟩
theorem ButM.draw {S : Nat → Prop} {w w1 : World} (h : ButM S w w1) : ButM S w w1.drew := ⟨h.size, h.cell, h.frz, fun B hB hs => (h.low B hB hs).drew⟩
/-- what a function that changes nothing leaves -/
theorem ButM.ofBelow {S : Nat → Prop} {w w1 : World} (h : Below w.heap.size w w1) : ButM S w w1 :=
  ⟨h.size, fun b _ hb _ => h.cell (p := ⟨b, _, none⟩) hb, fun b _ hb => h.frozen (p := ⟨b, _, none⟩) hb, fun _ _ hs => h.mono hs⟩
theorem OwnOps.butM {S : Nat → Prop} {w w1 : World} {g n : Nat} {xs : List O2} (h : OwnOps w g n xs) (hb : ButM S w w1) (hn : ¬ S g) : OwnOps w1 g n xs :=
  ⟨Nat.lt_of_lt_of_le h.size hb.size, fun o => (hb.frz g o h.size).trans (h.frz o), fun o ho => by rw [hb.cell g o h.size hn]; exact h.all o ho, fun i x hx => by
    rw [hb.cell g _ h.size hn, hb.cell g _ h.size hn]; exact h.held i x hx⟩
/-- one Op of a row is written anew -/
theorem OwnOps.set {w : World} {g n i : Nat} {xs : List O2} (h : OwnOps w g n xs) (hi : i < xs.length) (hn : xs.length ≤ n) (b k : Int) :
    OwnOps ((w.setCell ⟨g, i * 2, none⟩ (.int .i64 b)).setCell ⟨g, i * 2 + 1, none⟩ (.int .i64 k)) g n (xs.set i (b, k)) := by
  refine ⟨by simpa using h.size, fun o => by rw [frozen_setCellO, frozen_setCellO]; exact h.frz o, fun o ho => ?_, fun j x hx => ?_⟩
  · obtain ⟨v, hv⟩ := h.all o ho
    obtain ⟨z, hz⟩ := setCell_thereO (o' := i * 2) (v := .int .i64 b) hv
    exact setCell_thereO hz
  · simp only [Nat.zero_add]
    by_cases hj : i = j
    · subst hj
      rw [List.getElem?_set_self hi] at hx
      simp only [Option.some.injEq] at hx
      subst hx
      obtain ⟨v0, h0⟩ := h.all (i * 2) (by omega)
      obtain ⟨v1, h1⟩ := h.all (i * 2 + 1) (by omega)
      obtain ⟨z, hz⟩ := setCell_thereO (o' := i * 2) (v := .int .i64 b) h1
      refine ⟨?_, World.cell?_setCell_same _ _ _ hz⟩
      rw [setCell_otherO (by omega)]
      exact World.cell?_setCell_same _ _ _ h0
    · rw [List.getElem?_set_ne hj] at hx
      have := h.held j x hx
      simp only [Nat.zero_add] at this
      refine ⟨?_, ?_⟩
      · rw [setCell_otherO (by omega), setCell_otherO (by omega)]; exact this.1
      · rw [setCell_otherO (by omega), setCell_otherO (by omega)]; exact this.2

/-- a slice of Ops of the call's own, in a block that meets S (or empty) -/
def OpsM (w : World) (u : Value) (xs : List O2) (S : Nat → Prop) : Prop :=
  (xs = [] ∧ ∃ a c, u = .slice a 0 c) ∨ ∃ b c, u = .slice (some ⟨b, 0, none⟩) xs.length c ∧ xs.length ≤ c ∧ S b ∧ OwnOps w b xs.length xs
theorem OpsM.of {w w1 : World} {u : Value} {xs : List O2} {S : Nat → Prop} (h : OpsM w u xs S) (hb : Below w.heap.size w w1) : OpsM w1 u xs S := by
  rcases h with h | ⟨b, c, h1, h2, h3, h4⟩
  · exact Or.inl h
  · exact Or.inr ⟨b, c, h1, h2, h3, h4.of hb⟩
theorem OpsM.but {w w1 : World} {u : Value} {xs : List O2} {S T : Nat → Prop} (h : OpsM w u xs S) (hb : ButM T w w1) (hn : ∀ b, S b → ¬ T b) : OpsM w1 u xs S := by
  rcases h with h | ⟨b, c, h1, h2, h3, h4⟩
  · exact Or.inl h
  · exact Or.inr ⟨b, c, h1, h2, h3, h4.butM hb (hn b h3)⟩
theorem OpsM.mono {w : World} {u : Value} {xs : List O2} {S T : Nat → Prop} (h : OpsM w u xs S) (hs : ∀ b, b < w.heap.size → S b → T b) : OpsM w u xs T := by
  rcases h with h | ⟨b, c, h1, h2, h3, h4⟩
  · exact Or.inl h
  · exact Or.inr ⟨b, c, h1, h2, hs b h4.size h3, h4⟩
theorem OpsM.is {w : World} {u : Value} {xs : List O2} {S : Nat → Prop} (h : OpsM w u xs S) : IsOps w u xs := by
  rcases h with h | ⟨b, c, h1, h2, _, h4⟩
  · exact Or.inl h
  · exact Or.inr ⟨b, 0, c, h1, h2, h4.size, h4.held⟩
theorem OpsM.slice {w : World} {u : Value} {xs : List O2} {S : Nat → Prop} (h : OpsM w u xs S) : ∃ a c, u = .slice a xs.length c := isOps_slice h.is

/-- the mark of number k -/
def mkO (k : Nat) : O2 := ((k : Int), (k : Int) + 1)
def mOps (k n : Nat) : List O2 := (List.range n).map (fun j => mkO (k + 2 * j))
theorem mOps_length (k n : Nat) : (mOps k n).length = n := by simp [mOps]
theorem mOps_at (k n i : Nat) (h : i < n) : (mOps k n)[i]'(by rw [mOps_length]; exact h) = mkO (k + 2 * i) := by simp [mOps]
theorem mOps_zero (k : Nat) : mOps k 0 = [] := rfl
/-- the first i are marked from k on -/
def msetO (k : Nat) (xs : List O2) (i : Nat) : List O2 := mOps k i ++ xs.drop i
theorem msetO_zero (k : Nat) (xs : List O2) : msetO k xs 0 = xs := by simp [msetO, mOps_zero]
theorem msetO_length (k : Nat) (xs : List O2) (i : Nat) (h : i ≤ xs.length) : (msetO k xs i).length = xs.length := by simp [msetO, mOps_length]; omega
theorem msetO_next (k : Nat) (xs : List O2) (i : Nat) (h : i < xs.length) : (msetO k xs i).set i (mkO (k + 2 * i)) = msetO k xs (i + 1) := by
  unfold msetO mOps
  rw [List.set_append_right _ _ (by simp), List.range_succ, List.map_append, List.append_assoc]
  congr 1
  simp
  rw [List.drop_eq_getElem_cons h, List.set_cons_zero]
theorem msetO_all (k : Nat) (xs : List O2) : msetO k xs xs.length = mOps k xs.length := by simp [msetO]

set_option maxHeartbeats 1000000 in
theorem markOpS_own (xs : List O2) (g cap k : Nat) (w : World) (ho : OwnOps w g xs.length xs) (b1 : xs.length ≤ 1048576) (bk : k ≤ 1073741824) :
    Calls Tryz.prog 73 #[.slice (some ⟨g, 0, none⟩) xs.length cap, .int .i64 k] w fun e w' => e = .returned (.int .i64 ((k + 2 * xs.length : Nat) : Int)) ∧ OwnOps w' g xs.length (mOps k xs.length) ∧ ButM (fun b => b = g) w w' := by
  go_enter Tryz.func73, Tryz.ntmps73
  go_wp2
  go_loopw [1, 5] (fun c s wr => ∃ i : Nat, i ≤ xs.length ∧ s = .int .i64 i ∧ c = .int .i64 ((k + 2 * i : Nat) : Int) ∧ OwnOps wr g xs.length (msetO k xs i) ∧ ButM (fun b => b = g) w wr) (fun _ s _ => xs.length - (intOf s).toNat)
  case atStart => exact ⟨0, Nat.zero_le _, rfl, rfl, by rw [msetO_zero]; exact ho, ButM.refl _ _⟩
  case round =>
    obtain ⟨i, hi, rfl, rfl, hO, hB⟩ := hrel
    by_cases hlt : i < xs.length
    · have j1 : (i : Int) < (xs.length : Int) := by omega
      have HN : Hid (OwnOps ((wr.setCell ⟨g, i * 2, none⟩ (.int .i64 (mkO (k + 2 * i)).1)).setCell ⟨g, i * 2 + 1, none⟩ (.int .i64 (mkO (k + 2 * i)).2)) g xs.length (msetO k xs (i + 1))) := by
        show OwnOps _ _ _ _
        rw [← msetO_next k xs i hlt]
        exact hO.set (by rw [msetO_length _ _ _ hi]; exact hlt) (by rw [msetO_length _ _ _ hi]; omega) _ _
      have HB2 : Hid (ButM (fun b => b = g) w ((wr.setCell ⟨g, i * 2, none⟩ (.int .i64 (mkO (k + 2 * i)).1)).setCell ⟨g, i * 2 + 1, none⟩ (.int .i64 (mkO (k + 2 * i)).2))) := (hB.set rfl _).set rfl _
      obtain ⟨u0, hu0⟩ := hO.all (i * 2) (by omega)
      obtain ⟨u1, hu1⟩ := hO.all (i * 2 + 1) (by omega)
      have hf := hO.frz
      have hs := hO.size
      clear hO hB
      simp only [mkO] at HN HB2
      obtain ⟨j, hj⟩ : ∃ j, j = k + 2 * i := ⟨_, rfl⟩
      have jb : j ≤ 1075838976 := by omega
      rw [← hj] at HN HB2 ⊢
      have HJ := hide hj
      clear hj
      go_wp2
      go_roundw
      case rel => exact ⟨i + 1, by omega, by go_num, by rw [show k + 2 * (i + 1) = j + 1 + 1 by rw [unhide HJ]; omega]; go_num, HN.out, HB2.out⟩
      case measure => simp [intOf]; omega
    · obtain rfl : i = xs.length := by omega
      rw [msetO_all] at hO
      go_wp2
      go_ret
      exact ⟨rfl, hO, hB⟩
theorem markOpS_calls (xs : List O2) (u : Value) (S : Nat → Prop) (k : Nat) (w : World) (h : OpsM w u xs S) (b1 : xs.length ≤ 1048576) (bk : k ≤ 1073741824) :
    Calls Tryz.prog 73 #[u, .int .i64 k] w fun e w' => e = .returned (.int .i64 ((k + 2 * xs.length : Nat) : Int)) ∧ OpsM w' u (mOps k xs.length) S ∧ ButM S w w' := by
  rcases h with ⟨rfl, a, c, rfl⟩ | ⟨b, c, rfl, h2, h3, h4⟩
  · go_enter Tryz.func73, Tryz.ntmps73
    go_wp2
    go_loopw [1, 5] (fun c s wr => s = .int .i64 0 ∧ c = .int .i64 (k : Int) ∧ wr = w) (fun _ _ _ => 0)
    case atStart => exact ⟨rfl, rfl, rfl⟩
    case round =>
      obtain ⟨rfl, rfl, rfl⟩ := hrel
      go_wp2
      go_ret
      exact ⟨by simp, Or.inl ⟨rfl, a, c, rfl⟩, ButM.refl _ _⟩
  · refine (markOpS_own xs b c k w h4 b1 bk).mono ?_
    rintro e w1 ⟨rfl, ho, hB⟩
    exact ⟨rfl, Or.inr ⟨b, c, by rw [mOps_length], by rw [mOps_length]; exact h2, h3, by rw [mOps_length]; exact ho⟩, hB.mono (fun b' hb => by rw [hb]; exact h3)⟩

set_option maxHeartbeats 1000000 in
theorem heldOpS_calls (n : Nat) (u : Value) (k : Nat) (w : World) (h : IsOps w u (mOps k n)) (b1 : n ≤ 1048576) (bk : k ≤ 1073741824) :
    Calls Tryz.prog 77 #[u, .int .i64 k] w fun e w' => e = .returned (.int .i64 ((k + 2 * n : Nat) : Int)) ∧ Below w.heap.size w w' := by
  rcases h with ⟨h0, a, c, rfl⟩ | ⟨g, off, c, rfl, _, hg, ho⟩
  · obtain rfl : n = 0 := by have := mOps_length k n; rw [h0] at this; simpa using this.symm
    clear h0
    go_enter Tryz.func77, Tryz.ntmps77
    go_wp2
    go_loopw [1, 5] (fun c s wr => s = .int .i64 0 ∧ c = .int .i64 (k : Int) ∧ wr = w) (fun _ _ _ => 0)
    case atStart => exact ⟨rfl, rfl, rfl⟩
    case round =>
      obtain ⟨rfl, rfl, rfl⟩ := hrel
      go_wp2
      go_ret
      exact ⟨by simp, Below.refl _ _⟩
  · rw [mOps_length]
    go_enter Tryz.func77, Tryz.ntmps77
    go_wp2
    go_loopw [1, 5] (fun c s wr => ∃ i : Nat, i ≤ n ∧ s = .int .i64 i ∧ c = .int .i64 ((k + 2 * i : Nat) : Int) ∧ Below w.heap.size w wr) (fun _ s _ => n - (intOf s).toNat)
    case atStart => exact ⟨0, Nat.zero_le _, rfl, rfl, Below.refl _ _⟩
    case round =>
      obtain ⟨i, hi, rfl, rfl, hb⟩ := hrel
      by_cases hlt : i < n
      · have j1 : (i : Int) < (n : Int) := by omega
        obtain ⟨e0, e1⟩ := (ho.of hg hb).at i (by rw [mOps_length]; exact hlt)
        rw [mOps_at k n i hlt] at e0 e1
        simp only [mkO] at e0 e1
        have q1 : g < wr.heap.size := Nat.lt_of_lt_of_le hg hb.size
        obtain ⟨j, hj⟩ : ∃ j, j = k + 2 * i := ⟨_, rfl⟩
        have jb : j ≤ 1075838976 := by omega
        rw [← hj] at e0 e1 ⊢
        have HJ := hide hj
        clear hj
        have n0 : ((j : Int) != (j : Int)) = false := by simp
        have n1 : (((j : Int) + 1) != ((j : Int) + 1)) = false := by simp
        go_wp2
        go_roundw
        case rel => exact ⟨i + 1, by omega, by go_num, by rw [show k + 2 * (i + 1) = j + 1 + 1 by rw [unhide HJ]; omega]; go_num, hb⟩
        case measure => simp [intOf]; omega
      · obtain rfl : i = n := by omega
        go_wp2
        go_ret
        exact ⟨rfl, hb⟩
end Go.Proofs.YtnchcndcinpalaaGreatDoor
