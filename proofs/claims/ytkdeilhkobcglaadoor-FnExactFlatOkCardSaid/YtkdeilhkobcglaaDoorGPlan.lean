import Derived.Test.YtkdeilhkobcglaaDoorNodeKit
import Derived.Test.YtkdeilhkobcglaaDoorGOp
import Derived.OwnWalk
import Derived.Test.YtkdeilhkobcglaaDoorSzKit
import Derived.Deep.RegionHeld3
import Derived.Deep.DeepCutAuto
/-
  PLANS IN MEMORY, of no program. A node has seven cells: K, T, M, the slice Ex, the slice of slices Exs, L, R.
-/
namespace Go.Proofs.YtkdeilhkobcglaaDoor
open Go Go.RowKit

structure Pn where
  K : Int
  T : Int
  M : Int
  Ex : List O2
  Exs : List (List O2)
  L : Int
  R : Int

/-- an argument: a slice of slices of Ops -/
def IsOpss (w : World) (v : Value) (oss : List (List O2)) : Prop :=
  (oss = [] ∧ ∃ a cap, v = .slice a 0 cap) ∨ ∃ g off cap, v = .slice (some ⟨g, off, none⟩) oss.length cap ∧ g < w.heap.size ∧ ∀ i xs, oss[i]? = some xs → ∃ u, w.cell? ⟨g, off + i, none⟩ = some u ∧ IsOps w u xs
theorem IsOpss.of {w w1 : World} {v : Value} {oss : List (List O2)} (h : IsOpss w v oss) (hb : Below w.heap.size w w1) : IsOpss w1 v oss := by
  rcases h with h | ⟨g, off, cap, h1, h2, h3⟩
  · exact Or.inl h
  · refine Or.inr ⟨g, off, cap, h1, Nat.lt_of_lt_of_le h2 hb.size, fun i xs hx => ?_⟩
    obtain ⟨u, hu, hr⟩ := h3 i xs hx
    exact ⟨u, (hb.cell (p := ⟨g, off + i, none⟩) h2).trans hu, hr.of hb⟩
theorem isOps_slice {w : World} {v : Value} {xs : List O2} (hv : IsOps w v xs) : ∃ a cap, v = .slice a xs.length cap := by
  rcases hv with ⟨rfl, a, cap, rfl⟩ | ⟨g, off, cap, rfl, _⟩
  · exact ⟨a, cap, rfl⟩
  · exact ⟨_, cap, rfl⟩
theorem isOpss_slice {w : World} {v : Value} {oss : List (List O2)} (hv : IsOpss w v oss) : ∃ a cap, v = .slice a oss.length cap := by
  rcases hv with ⟨rfl, a, cap, rfl⟩ | ⟨g, off, cap, rfl, _⟩
  · exact ⟨a, cap, rfl⟩
  · exact ⟨_, cap, rfl⟩
theorem OpsAt.far {w : World} {g off : Nat} {xs : List O2} (h : OpsAt w g off xs) {X O : Nat} (hne : X ≠ g) (v : Value) : OpsAt (w.setCell ⟨X, O, none⟩ v) g off xs := fun i x hx => by
  rw [setCell_farN hne, setCell_farN hne]
  exact h i x hx
/-- rows of Ops of the call's own making -/
def OpssAt (w : World) (G : Nat) (oss : List (List O2)) : Prop := ∀ i xs, oss[i]? = some xs → ∃ b, w.cell? ⟨G, i, none⟩ = some (.slice (some ⟨b, 0, none⟩) xs.length xs.length) ∧ G < b ∧ b < w.heap.size ∧ OpsAt w b 0 xs
theorem OpssAt.of {w w1 : World} {G : Nat} {oss : List (List O2)} (h : OpssAt w G oss) (hg : G < w.heap.size) (hb : Below w.heap.size w w1) : OpssAt w1 G oss := fun i xs hx => by
  obtain ⟨b, h1, h2, h3, h4⟩ := h i xs hx
  exact ⟨b, (hb.cell (p := ⟨G, i, none⟩) hg).trans h1, h2, Nat.lt_of_lt_of_le h3 hb.size, h4.of h3 hb⟩
theorem OpssAt.far {w : World} {G : Nat} {oss : List (List O2)} (h : OpssAt w G oss) {X O : Nat} (hX : X < G) (v : Value) : OpssAt (w.setCell ⟨X, O, none⟩ v) G oss := fun i xs hx => by
  obtain ⟨b, h1, h2, h3, h4⟩ := h i xs hx
  exact ⟨b, by rw [setCell_farN (by omega)]; exact h1, h2, by simpa using h3, h4.far (by omega) v⟩
structure OwnOpss (w : World) (G n : Nat) (oss : List (List O2)) : Prop where
  size : G < w.heap.size
  frz : ∀ o, w.frozen? ⟨G, o, none⟩ = false
  all : ∀ o, o < n → ∃ v, w.cell? ⟨G, o, none⟩ = some v
  held : OpssAt w G oss
theorem OwnOpss.of {w w1 : World} {G n : Nat} {oss : List (List O2)} (h : OwnOpss w G n oss) (hb : Below w.heap.size w w1) : OwnOpss w1 G n oss :=
  ⟨Nat.lt_of_lt_of_le h.size hb.size, fun o => (hb.frozen (p := ⟨G, o, none⟩) h.size).trans (h.frz o), fun o ho => by
    obtain ⟨v, hv⟩ := h.all o ho
    exact ⟨v, (hb.cell (p := ⟨G, o, none⟩) h.size).trans hv⟩, h.held.of h.size hb⟩
theorem OwnOpss.made (w : World) (n : Nat) (C : Array Value) (t : TypeId) (hC : C.size = n) : OwnOpss (w.alloc (.cells C t)) w.heap.size n [] :=
  ⟨by simp, fun o => by simp [go_sem], fun o ho => ⟨C[o]'(by omega), by rw [World.cell?_alloc_at C t _ o rfl]; simp⟩, fun i x hx => by simp at hx⟩
theorem OwnOpss.put {w : World} {G n k : Nat} {oss : List (List O2)} (h : OwnOpss w G n (oss.take k)) (hk : k < oss.length) (hn : k < n) (b : Nat) (h1 : G < b) (h2 : b < w.heap.size) (h3 : OpsAt w b 0 oss[k]) :
    OwnOpss (w.setCell ⟨G, k, none⟩ (.slice (some ⟨b, 0, none⟩) (oss[k]).length (oss[k]).length)) G n (oss.take (k + 1)) := by
  refine ⟨by simpa using h.size, fun o => by rw [frozen_setCellN]; exact h.frz o, fun o ho => ?_, fun i x hx => ?_⟩
  · obtain ⟨v, hv⟩ := h.all o ho
    exact setCell_thereN hv
  · rw [take_snocN oss k hk] at hx
    have hl : (oss.take k).length = k := by simp; omega
    by_cases hi : i < k
    · rw [List.getElem?_append_left (by omega)] at hx
      obtain ⟨b', e1, e2, e3, e4⟩ := h.held i x hx
      exact ⟨b', by rw [setCell_otherN (by omega)]; exact e1, e2, by simpa using e3, e4.far (by omega) _⟩
    · obtain rfl : i = k := by
        have := (List.getElem?_eq_some_iff.1 hx).1
        simp at this; omega
      rw [List.getElem?_append_right (by omega)] at hx
      simp [hl] at hx
      subst hx
      obtain ⟨v0, c0⟩ := h.all i hn
      exact ⟨b, World.cell?_setCell_same _ _ _ c0, h1, by simpa using h2, h3.far (by omega) _⟩

/-- an argument: a slice of nodes -/
def IsPns (w : World) (v : Value) (ps : List Pn) : Prop :=
  (ps = [] ∧ ∃ a cap, v = .slice a 0 cap) ∨ ∃ g off cap, v = .slice (some ⟨g, off, none⟩) ps.length cap ∧ g < w.heap.size ∧
    ∀ i p, ps[i]? = some p → w.cell? ⟨g, off + i * 7, none⟩ = some (.int .i64 p.K) ∧ w.cell? ⟨g, off + i * 7 + 1, none⟩ = some (.int .i64 p.T) ∧ w.cell? ⟨g, off + i * 7 + 2, none⟩ = some (.int .i64 p.M) ∧
      w.cell? ⟨g, off + i * 7 + 5, none⟩ = some (.int .i64 p.L) ∧ w.cell? ⟨g, off + i * 7 + 6, none⟩ = some (.int .i64 p.R) ∧
      (∃ u, w.cell? ⟨g, off + i * 7 + 3, none⟩ = some u ∧ IsOps w u p.Ex) ∧ ∃ u, w.cell? ⟨g, off + i * 7 + 4, none⟩ = some u ∧ IsOpss w u p.Exs
theorem IsPns.of {w w1 : World} {v : Value} {ps : List Pn} (h : IsPns w v ps) (hb : Below w.heap.size w w1) : IsPns w1 v ps := by
  rcases h with h | ⟨g, off, cap, h1, h2, h3⟩
  · exact Or.inl h
  · refine Or.inr ⟨g, off, cap, h1, Nat.lt_of_lt_of_le h2 hb.size, fun i p hp => ?_⟩
    obtain ⟨c0, c1, c2, c5, c6, ⟨u, c3, hu⟩, u', c4, hu'⟩ := h3 i p hp
    exact ⟨(hb.cell (p := ⟨g, off + i * 7, none⟩) h2).trans c0, (hb.cell (p := ⟨g, off + i * 7 + 1, none⟩) h2).trans c1, (hb.cell (p := ⟨g, off + i * 7 + 2, none⟩) h2).trans c2, (hb.cell (p := ⟨g, off + i * 7 + 5, none⟩) h2).trans c5, (hb.cell (p := ⟨g, off + i * 7 + 6, none⟩) h2).trans c6,
      ⟨u, (hb.cell (p := ⟨g, off + i * 7 + 3, none⟩) h2).trans c3, hu.of hb⟩, u', (hb.cell (p := ⟨g, off + i * 7 + 4, none⟩) h2).trans c4, hu'.of hb⟩
theorem isPns_slice {w : World} {v : Value} {ps : List Pn} (hv : IsPns w v ps) : ∃ a cap, v = .slice a ps.length cap := by
  rcases hv with ⟨rfl, a, cap, rfl⟩ | ⟨g, off, cap, rfl, _⟩
  · exact ⟨a, cap, rfl⟩
  · exact ⟨_, cap, rfl⟩

/-- nodes of the call's own making -/
structure PnAt (w : World) (g o : Nat) (p : Pn) : Prop where
  c0 : w.cell? ⟨g, o, none⟩ = some (.int .i64 p.K)
  c1 : w.cell? ⟨g, o + 1, none⟩ = some (.int .i64 p.T)
  c2 : w.cell? ⟨g, o + 2, none⟩ = some (.int .i64 p.M)
  c5 : w.cell? ⟨g, o + 5, none⟩ = some (.int .i64 p.L)
  c6 : w.cell? ⟨g, o + 6, none⟩ = some (.int .i64 p.R)
  ex : ∃ b, w.cell? ⟨g, o + 3, none⟩ = some (.slice (some ⟨b, 0, none⟩) p.Ex.length p.Ex.length) ∧ g < b ∧ b < w.heap.size ∧ OpsAt w b 0 p.Ex
  exs : ∃ b, w.cell? ⟨g, o + 4, none⟩ = some (.slice (some ⟨b, 0, none⟩) p.Exs.length p.Exs.length) ∧ g < b ∧ b < w.heap.size ∧ OpssAt w b p.Exs
theorem PnAt.of {w w1 : World} {g o : Nat} {p : Pn} (h : PnAt w g o p) (hg : g < w.heap.size) (hb : Below w.heap.size w w1) : PnAt w1 g o p := by
  obtain ⟨c0, c1, c2, c5, c6, ⟨b, c3, e1, e2, e3⟩, b', c4, f1, f2, f3⟩ := h
  exact ⟨(hb.cell (p := ⟨g, o, none⟩) hg).trans c0, (hb.cell (p := ⟨g, o + 1, none⟩) hg).trans c1, (hb.cell (p := ⟨g, o + 2, none⟩) hg).trans c2, (hb.cell (p := ⟨g, o + 5, none⟩) hg).trans c5, (hb.cell (p := ⟨g, o + 6, none⟩) hg).trans c6,
    ⟨b, (hb.cell (p := ⟨g, o + 3, none⟩) hg).trans c3, e1, Nat.lt_of_lt_of_le e2 hb.size, e3.of e2 hb⟩, b', (hb.cell (p := ⟨g, o + 4, none⟩) hg).trans c4, f1, Nat.lt_of_lt_of_le f2 hb.size, f3.of f2 hb⟩
theorem PnAt.far {w : World} {g o : Nat} {p : Pn} (h : PnAt w g o p) {X O : Nat} (hX : X < g ∨ (X = g ∧ (O < o ∨ o + 6 < O))) (v : Value) : PnAt (w.setCell ⟨X, O, none⟩ v) g o p := by
  have hk : ∀ k, k ≤ 6 → (w.setCell ⟨X, O, none⟩ v).cell? ⟨g, o + k, none⟩ = w.cell? ⟨g, o + k, none⟩ := fun k hk => by
    rcases hX with h | ⟨rfl, h⟩
    · rw [setCell_farN (by omega)]
    · rw [setCell_otherN (by omega)]
  have h0 := hk 0 (by omega)
  rw [Nat.add_zero] at h0
  obtain ⟨c0, c1, c2, c5, c6, ⟨b, c3, e1, e2, e3⟩, b', c4, f1, f2, f3⟩ := h
  exact ⟨h0.trans c0, (hk 1 (by omega)).trans c1, (hk 2 (by omega)).trans c2, (hk 5 (by omega)).trans c5, (hk 6 (by omega)).trans c6, ⟨b, (hk 3 (by omega)).trans c3, e1, by simpa using e2, e3.far (by omega) v⟩, b', (hk 4 (by omega)).trans c4, f1, by simpa using f2, f3.far (by omega) v⟩
def PnsAt (w : World) (g off : Nat) (ps : List Pn) : Prop := ∀ i p, ps[i]? = some p → PnAt w g (off + i * 7) p
theorem PnsAt.of {w w1 : World} {g off : Nat} {ps : List Pn} (h : PnsAt w g off ps) (hg : g < w.heap.size) (hb : Below w.heap.size w w1) : PnsAt w1 g off ps := fun i p hp => (h i p hp).of hg hb
theorem PnsAt.far {w : World} {g off : Nat} {ps : List Pn} (h : PnsAt w g off ps) {X O : Nat} (hX : X < g) (v : Value) : PnsAt (w.setCell ⟨X, O, none⟩ v) g off ps := fun i p hp => (h i p hp).far (Or.inl hX) v
theorem PnsAt.at {w : World} {g off : Nat} {ps : List Pn} (h : PnsAt w g off ps) (i : Nat) (hi : i < ps.length) : PnAt w g (off + i * 7) ps[i] := h i ps[i] (by simp [hi])
structure OwnPns (w : World) (g n : Nat) (ps : List Pn) : Prop where
  size : g < w.heap.size
  frz : ∀ o, w.frozen? ⟨g, o, none⟩ = false
  all : ∀ o, o < n * 7 → ∃ v, w.cell? ⟨g, o, none⟩ = some v
  held : PnsAt w g 0 ps
theorem OwnPns.of {w w1 : World} {g n : Nat} {ps : List Pn} (h : OwnPns w g n ps) (hb : Below w.heap.size w w1) : OwnPns w1 g n ps :=
  ⟨Nat.lt_of_lt_of_le h.size hb.size, fun o => (hb.frozen (p := ⟨g, o, none⟩) h.size).trans (h.frz o), fun o ho => by
    obtain ⟨v, hv⟩ := h.all o ho
    exact ⟨v, (hb.cell (p := ⟨g, o, none⟩) h.size).trans hv⟩, h.held.of h.size hb⟩
theorem OwnPns.made (w : World) (n : Nat) (C : Array Value) (t : TypeId) (hC : C.size = n * 7) : OwnPns (w.alloc (.cells C t)) w.heap.size n [] :=
  ⟨by simp, fun o => by simp [go_sem], fun o ho => ⟨C[o]'(by omega), by rw [World.cell?_alloc_at C t _ o rfl]; simp⟩, fun i x hx => by simp at hx⟩
def putPn (w : World) (g o : Nat) (p : Pn) (b b' : Nat) : World :=
  ((((((w.setCell ⟨g, o, none⟩ (.int .i64 p.K)).setCell ⟨g, o + 1, none⟩ (.int .i64 p.T)).setCell ⟨g, o + 2, none⟩ (.int .i64 p.M)).setCell ⟨g, o + 3, none⟩ (.slice (some ⟨b, 0, none⟩) p.Ex.length p.Ex.length)).setCell ⟨g, o + 4, none⟩ (.slice (some ⟨b', 0, none⟩) p.Exs.length p.Exs.length)).setCell ⟨g, o + 5, none⟩ (.int .i64 p.L)).setCell ⟨g, o + 6, none⟩ (.int .i64 p.R)
theorem putPn_below {w0 w : World} {s : Nat} (h : Below s w0 w) {g o : Nat} (hg : s ≤ g) (p : Pn) (b b' : Nat) : Below s w0 (putPn w g o p b b') :=
  ((((((h.setCell (p := ⟨g, o, none⟩) hg _).setCell (p := ⟨g, o + 1, none⟩) hg _).setCell (p := ⟨g, o + 2, none⟩) hg _).setCell (p := ⟨g, o + 3, none⟩) hg _).setCell (p := ⟨g, o + 4, none⟩) hg _).setCell (p := ⟨g, o + 5, none⟩) hg _).setCell (p := ⟨g, o + 6, none⟩) hg _
theorem OwnPns.put {w : World} {g n k : Nat} {ps : List Pn} (h : OwnPns w g n (ps.take k)) (hk : k < ps.length) (hn : k < n) (b b' : Nat) (h1 : g < b) (h2 : b < w.heap.size) (h3 : OpsAt w b 0 (ps[k]).Ex) (f1 : g < b') (f2 : b' < w.heap.size) (f3 : OpssAt w b' (ps[k]).Exs) :
    OwnPns (putPn w g (k * 7) ps[k] b b') g n (ps.take (k + 1)) := by
  have hsz : (putPn w g (k * 7) ps[k] b b').heap.size = w.heap.size := by simp [putPn]
  have hi7 : ∀ o, o < 7 → ∃ v, w.cell? ⟨g, k * 7 + o, none⟩ = some v := fun o ho => h.all _ (by omega)
  refine ⟨by rw [hsz]; exact h.size, fun o => by unfold putPn; simp only [frozen_setCellN]; exact h.frz o, fun o ho => ?_, fun i x hx => ?_⟩
  · obtain ⟨v, hv⟩ := h.all o ho
    unfold putPn
    obtain ⟨v, hv⟩ := setCell_thereN (o' := k * 7) (v := .int .i64 (ps[k]).K) hv
    obtain ⟨v, hv⟩ := setCell_thereN (o' := k * 7 + 1) (v := .int .i64 (ps[k]).T) hv
    obtain ⟨v, hv⟩ := setCell_thereN (o' := k * 7 + 2) (v := .int .i64 (ps[k]).M) hv
    obtain ⟨v, hv⟩ := setCell_thereN (o' := k * 7 + 3) (v := .slice (some ⟨b, 0, none⟩) (ps[k]).Ex.length (ps[k]).Ex.length) hv
    obtain ⟨v, hv⟩ := setCell_thereN (o' := k * 7 + 4) (v := .slice (some ⟨b', 0, none⟩) (ps[k]).Exs.length (ps[k]).Exs.length) hv
    obtain ⟨v, hv⟩ := setCell_thereN (o' := k * 7 + 5) (v := .int .i64 (ps[k]).L) hv
    exact setCell_thereN hv
  · rw [take_snocN ps k hk] at hx
    have hl : (ps.take k).length = k := by simp; omega
    by_cases hi : i < k
    · rw [List.getElem?_append_left (by omega)] at hx
      have := h.held i x hx
      unfold putPn
      exact ((((((this.far (Or.inr ⟨rfl, by omega⟩) _).far (Or.inr ⟨rfl, by omega⟩) _).far (Or.inr ⟨rfl, by omega⟩) _).far (Or.inr ⟨rfl, by omega⟩) _).far (Or.inr ⟨rfl, by omega⟩) _).far (Or.inr ⟨rfl, by omega⟩) _).far (Or.inr ⟨rfl, by omega⟩) _
    · obtain rfl : i = k := by
        have := (List.getElem?_eq_some_iff.1 hx).1
        simp at this; omega
      rw [List.getElem?_append_right (by omega)] at hx
      simp [hl] at hx
      subst hx
      simp only [Nat.zero_add]
      obtain ⟨v0, c0⟩ := hi7 0 (by omega)
      obtain ⟨v1, c1⟩ := hi7 1 (by omega)
      obtain ⟨v2, c2⟩ := hi7 2 (by omega)
      obtain ⟨v3, c3⟩ := hi7 3 (by omega)
      obtain ⟨v4, c4⟩ := hi7 4 (by omega)
      obtain ⟨v5, c5⟩ := hi7 5 (by omega)
      obtain ⟨v6, c6⟩ := hi7 6 (by omega)
      refine ⟨by unfold putPn; rw [setCell_otherN (by omega), setCell_otherN (by omega), setCell_otherN (by omega), setCell_otherN (by omega), setCell_otherN (by omega), setCell_otherN (by omega)]; exact World.cell?_setCell_same _ _ _ c0, by unfold putPn; rw [setCell_otherN (by omega), setCell_otherN (by omega), setCell_otherN (by omega), setCell_otherN (by omega), setCell_otherN (by omega)]; exact World.cell?_setCell_same _ _ _ (by rw [setCell_otherN (by omega)]; exact c1), by unfold putPn; rw [setCell_otherN (by omega), setCell_otherN (by omega), setCell_otherN (by omega), setCell_otherN (by omega)]; exact World.cell?_setCell_same _ _ _ (by rw [setCell_otherN (by omega), setCell_otherN (by omega)]; exact c2), by unfold putPn; rw [setCell_otherN (by omega)]; exact World.cell?_setCell_same _ _ _ (by rw [setCell_otherN (by omega), setCell_otherN (by omega), setCell_otherN (by omega), setCell_otherN (by omega), setCell_otherN (by omega)]; exact c5), by unfold putPn; exact World.cell?_setCell_same _ _ _ (by rw [setCell_otherN (by omega), setCell_otherN (by omega), setCell_otherN (by omega), setCell_otherN (by omega), setCell_otherN (by omega), setCell_otherN (by omega)]; exact c6), ⟨b, by unfold putPn; rw [setCell_otherN (by omega), setCell_otherN (by omega), setCell_otherN (by omega)]; exact World.cell?_setCell_same _ _ _ (by rw [setCell_otherN (by omega), setCell_otherN (by omega), setCell_otherN (by omega)]; exact c3), h1, by rw [hsz]; exact h2, ?_⟩, b', by unfold putPn; rw [setCell_otherN (by omega), setCell_otherN (by omega)]; exact World.cell?_setCell_same _ _ _ (by rw [setCell_otherN (by omega), setCell_otherN (by omega), setCell_otherN (by omega), setCell_otherN (by omega)]; exact c4), f1, by rw [hsz]; exact f2, ?_⟩
      · unfold putPn
        exact ((((((h3.far (by omega) _).far (by omega) _).far (by omega) _).far (by omega) _).far (by omega) _).far (by omega) _).far (by omega) _
      · unfold putPn
        exact ((((((f3.far (by omega) _).far (by omega) _).far (by omega) _).far (by omega) _).far (by omega) _).far (by omega) _).far (by omega) _

/-- how much Ops hold, as the law counts it -/
def bulkO : List (List O2) → Nat
  | [] => 0
  | xs :: r => xs.length + bulkO r
theorem bulkO_append (a b : List (List O2)) : bulkO (a ++ b) = bulkO a + bulkO b := by
  induction a with
  | nil => simp [bulkO]
  | cons x a ih => simp only [List.cons_append, bulkO, ih]; omega
theorem bulkO_take (xss : List (List O2)) (k : Nat) (hk : k < xss.length) : bulkO (xss.take (k + 1)) = bulkO (xss.take k) + xss[k].length := by
  rw [take_snocN xss k hk, bulkO_append]; simp [bulkO]
theorem bulkO_take_le (xss : List (List O2)) (k : Nat) : bulkO (xss.take k) ≤ bulkO xss := by
  have := bulkO_append (xss.take k) (xss.drop k)
  rw [List.take_append_drop] at this
  omega
theorem bulkO_mem {xss : List (List O2)} {xs : List O2} (h : xs ∈ xss) : xs.length ≤ bulkO xss := by
  induction xss with
  | nil => cases h
  | cons x r ih =>
    simp only [bulkO]
    cases List.mem_cons.1 h with
    | inl e => subst e; omega
    | inr e => have := ih e; omega
def bulkP : List Pn → Nat
  | [] => 0
  | p :: r => p.Ex.length + (p.Exs.length + bulkO p.Exs) + bulkP r
theorem bulkP_append (a b : List Pn) : bulkP (a ++ b) = bulkP a + bulkP b := by
  induction a with
  | nil => simp [bulkP]
  | cons x a ih => simp only [List.cons_append, bulkP, ih]; omega
theorem bulkP_take (ps : List Pn) (k : Nat) (hk : k < ps.length) : bulkP (ps.take (k + 1)) = bulkP (ps.take k) + ((ps[k]).Ex.length + ((ps[k]).Exs.length + bulkO (ps[k]).Exs)) := by
  rw [take_snocN ps k hk, bulkP_append]; simp [bulkP]
theorem bulkP_take_le (ps : List Pn) (k : Nat) : bulkP (ps.take k) ≤ bulkP ps := by
  have := bulkP_append (ps.take k) (ps.drop k)
  rw [List.take_append_drop] at this
  omega
theorem bulkP_mem {ps : List Pn} {p : Pn} (h : p ∈ ps) : p.Ex.length + (p.Exs.length + bulkO p.Exs) ≤ bulkP ps := by
  induction ps with
  | nil => cases h
  | cons x r ih =>
    simp only [bulkP]
    cases List.mem_cons.1 h with
    | inl e => subst e; omega
    | inr e => have := ih e; omega
end Go.Proofs.YtkdeilhkobcglaaDoor
/-
  COPIES OF PLANS.
-/
namespace Go.Proofs.YtkdeilhkobcglaaDoor
open Go Go.RowKit

/-- make([][]impl.Op, n) -/
theorem make_opss (n : Nat) (hn : n ≤ 1048576) (w : World) :
    (Instr.makeSlice 91 (.int .i64 (n : Int)) (.int .i64 (n : Int))).run Tryd.prog w = .ok (.slice (some ⟨w.heap.size, 0, none⟩) n n) (w.alloc (.cells (madeCells #[.slice none 0 0] n) 90)) := by
  obtain ⟨i, hi, hz⟩ := Option.map_eq_some_iff.1 (show (Tryd.prog.info? 90).map (fun i => (i.zero, i.size, i.bytes)) = some (some (.slice none 0 0), 1, 24) by kernel_rfl)
  simp only [Prod.mk.injEq] at hz
  have := run_make (P := Tryd.prog) w 91 90 i _ Tryd.underlying91 hi hz.1 .i64 .i64 (n : Int) (n : Int) (by omega) (by omega) (by rw [hz.2.2]; omega) (by omega)
  rw [hz.2.1] at this
  simpa [Value.cells] using this
theorem make_opss0 (w : World) : (Instr.makeSlice 91 (.int .i64 0) (.int .i64 0)).run Tryd.prog w = .ok (.slice (some ⟨w.heap.size, 0, none⟩) 0 0) (w.alloc (.cells #[] 90)) := by
  have := make_opss 0 (by omega) w
  rw [show madeCells #[.slice none 0 0] 0 = #[] from Array.eq_empty_of_size_eq_zero (by simp [size_madeCells])] at this
  simpa using this
/-- make([]impl.PNode, n) -/
theorem make_pns (n : Nat) (hn : n ≤ 1048576) (w : World) :
    (Instr.makeSlice 32 (.int .i64 (n : Int)) (.int .i64 (n : Int))).run Tryd.prog w = .ok (.slice (some ⟨w.heap.size, 0, none⟩) n n) (w.alloc (.cells (madeCells #[.int .i64 0, .int .i64 0, .int .i64 0, .slice none 0 0, .slice none 0 0, .int .i64 0, .int .i64 0] (n * 7)) 93)) := by
  obtain ⟨i, hi, hz⟩ := Option.map_eq_some_iff.1 (show (Tryd.prog.info? 93).map (fun i => (i.zero, i.size, i.bytes)) = some (some (.agg #[.int .i64 0, .int .i64 0, .int .i64 0, .slice none 0 0, .slice none 0 0, .int .i64 0, .int .i64 0]), 7, 88) by kernel_rfl)
  simp only [Prod.mk.injEq] at hz
  have := run_make (P := Tryd.prog) w 32 93 i _ Tryd.underlying32 hi hz.1 .i64 .i64 (n : Int) (n : Int) (by omega) (by omega) (by rw [hz.2.2]; omega) (by omega)
  rw [hz.2.1] at this
  simpa [Value.cells] using this
theorem make_pns0 (w : World) : (Instr.makeSlice 32 (.int .i64 0) (.int .i64 0)).run Tryd.prog w = .ok (.slice (some ⟨w.heap.size, 0, none⟩) 0 0) (w.alloc (.cells #[] 93)) := by
  have := make_pns 0 (by omega) w
  rw [show madeCells #[.int .i64 0, .int .i64 0, .int .i64 0, .slice none 0 0, .slice none 0 0, .int .i64 0, .int .i64 0] (0 * 7) = #[] from Array.eq_empty_of_size_eq_zero (by simp [size_madeCells])] at this
  simpa using this

set_option maxHeartbeats 1000000 in
theorem toOpSS_calls (v : Value) (oss : List (List O2)) (w : World) (hv : IsOpss w v oss) (hn : oss.length ≤ 1048576) (hx : bulkO oss ≤ 1048576) :
    Calls Tryd.prog 79 #[v] w fun e w' => ∃ G, e = .returned (.slice (some ⟨G, 0, none⟩) oss.length oss.length) ∧ w.heap.size ≤ G ∧ OwnOpss w' G oss.length oss ∧ Below w.heap.size w w' := by
  rcases hv with ⟨rfl, a, cap, rfl⟩ | ⟨g, off, cap, rfl, hg, hr⟩
  · have hmk := make_opss0
    clear hn hx
    go_enter Tryd.func79, Tryd.ntmps79
    go_wp2
    go_loopw [4] (fun i wr => i = .int .i64 0 ∧ OwnOpss wr w.heap.size 0 [] ∧ Below w.heap.size w wr) (fun _ _ => 0)
    case atStart => exact ⟨rfl, OwnOpss.made w 0 #[] _ rfl, bA (Below.refl _ _) _⟩
    case round =>
      obtain ⟨rfl, ho, hb⟩ := hrel
      go_wp2
      go_ret
      exact ⟨_, rfl, Nat.le_refl _, ho, hb⟩
  · have hmk := make_opss oss.length hn
    have hO : Hid (OwnOpss (w.alloc (.cells (madeCells #[.slice none 0 0] oss.length) 90)) w.heap.size oss.length []) := OwnOpss.made w _ _ _ (by simp [size_madeCells])
    have HR := hide hr
    clear hr
    go_enter Tryd.func79, Tryd.ntmps79
    go_wp2
    go_loopw [4] (fun i wr => ∃ k : Nat, k ≤ oss.length ∧ i = .int .i64 k ∧ OwnOpss wr w.heap.size oss.length (oss.take k) ∧ Below w.heap.size w wr) (fun i _ => oss.length - (intOf i).toNat)
    case atStart => exact ⟨0, Nat.zero_le _, rfl, by simpa using hO.out, bA (Below.refl _ _) _⟩
    case round =>
      clear hO hmk
      obtain ⟨k, hk, rfl, ho, hb⟩ := hrel
      by_cases hlt : k < oss.length
      · obtain ⟨u, hu, hru⟩ := (unhide HR) k oss[k] (List.getElem?_eq_getElem hlt)
        have e0 : wr.cell? ⟨g, off + k, none⟩ = some u := (hb.cell (p := ⟨g, off + k, none⟩) hg).trans hu
        have hxk : oss[k].length ≤ 1048576 := Nat.le_trans (bulkO_mem (List.getElem_mem hlt)) hx
        have q1 : g < wr.heap.size := Nat.lt_of_lt_of_le hg hb.size
        have HO := hide ho
        clear ho
        go_wp2_with fail
        refine (toOpS_calls u oss[k] _ (hru.of hb) hxk).mono ?_; rintro e w1 ⟨g1, rfl, hg1, ho1, hb1⟩
        have d1 := bT hb hb1
        have hoG := (unhide HO).of hb1
        have hN := hide (hoG.put hlt hlt g1 (Nat.lt_of_lt_of_le (unhide HO).size hg1) ho1.size ho1.held)
        obtain ⟨u0, hu0⟩ := hoG.all k hlt
        have hf := hoG.frz
        clear hoG hb1 HO ho1 hg1 e0
        go_wp2
        go_roundw
        case rel => exact ⟨k + 1, by omega, by go_num, unhide hN, d1.setCell (Nat.le_refl _) _⟩
        case measure => simp [intOf]; omega
      · obtain rfl : k = oss.length := by omega
        rw [List.take_length] at ho
        go_wp2
        go_ret
        exact ⟨_, rfl, Nat.le_refl _, ho, hb⟩

set_option maxHeartbeats 2000000 in
theorem toPNode_calls (K T M L R : Int) (v v' : Value) (xs : List O2) (oss : List (List O2)) (w : World) (hv : IsOps w v xs) (hv' : IsOpss w v' oss) (hn : xs.length ≤ 1048576) (hn' : oss.length ≤ 1048576) (hx : bulkO oss ≤ 1048576) :
    Calls Tryd.prog 47 #[.agg #[.int .i64 K, .int .i64 T, .int .i64 M, v, v', .int .i64 L, .int .i64 R]] w fun e w' => ∃ b b', e = .returned (.agg #[.int .i64 K, .int .i64 T, .int .i64 M, .slice (some ⟨b, 0, none⟩) xs.length xs.length, .slice (some ⟨b', 0, none⟩) oss.length oss.length, .int .i64 L, .int .i64 R]) ∧
      w.heap.size ≤ b ∧ b < w'.heap.size ∧ OpsAt w' b 0 xs ∧ w.heap.size ≤ b' ∧ b' < w'.heap.size ∧ OpssAt w' b' oss ∧ Below w.heap.size w w' := by
  have TI := fun W (hb : Below w.heap.size w W) => toOpS_calls v xs W (hv.of hb) hn
  have TJ := fun W (hb : Below w.heap.size w W) => toOpSS_calls v' oss W (hv'.of hb) hn' hx
  have HT := hide TI; have HJ := hide TJ
  obtain ⟨a, cap, rfl⟩ := isOps_slice hv
  obtain ⟨a', cap', rfl⟩ := isOpss_slice hv'
  clear TI TJ hv hv'
  go_enter Tryd.func47, Tryd.ntmps47
  go_wp2_with fail
  refine (unhide HT _ (by (repeat (first | exact Below.refl _ _ | refine bA ?_ _ | refine Below.setCell ?_ (by simp <;> omega) _)))).mono ?_; rintro e w1 ⟨b, rfl, hb0, ho, hb1⟩
  obtain ⟨hc, hf⟩ := bcell hb1
  have hs1 : w.heap.size + 3 ≤ w1.heap.size := by have := hb1.size; simpa using this
  have hbb : w.heap.size + 3 ≤ b := by simpa using hb0
  have d1 : Below w.heap.size w w1 := bT (by (repeat (first | exact Below.refl _ _ | refine bA ?_ _))) hb1
  have HO := hide ho
  clear ho hb1 hb0
  go_wp2_with fail
  refine (unhide HJ _ (d1.setCell (by dsimp only; omega) _)).mono ?_; rintro e w2 ⟨b', rfl, hb0', ho', hb2⟩
  have hs2 : w1.heap.size ≤ w2.heap.size := by have := hb2.size; simpa using this
  have hbb' : w1.heap.size ≤ b' := by simpa using hb0'
  obtain ⟨hc2, hf2⟩ := bcell hb2
  simp only [World.size_setCell] at hc2 hf2
  have d2 : Below w.heap.size w w2 := bT (d1.setCell (by dsimp only; omega) _) hb2
  have hO2 : OpsAt w2 b 0 xs := ((unhide HO).held.far (X := w.heap.size + 1 + 1) (O := 3) (by omega) _).of (by simpa using (unhide HO).size) hb2
  have hsb : b < w2.heap.size := Nat.lt_of_lt_of_le (unhide HO).size hs2
  have HO2 := hide hO2; have HP := hide ho'.held; have HD := hide d2
  have hsb' := ho'.size
  have z1 : w.heap.size < w1.heap.size := by omega
  have z2 : w.heap.size + 1 < w1.heap.size := by omega
  have z3 : w.heap.size + 1 + 1 < w1.heap.size := by omega
  clear hO2 ho' d2 d1 hb2 HO hb0'
  go_wp2
  refine bodyPost_ret (v := .agg #[.int .i64 K, .int .i64 T, .int .i64 M, .slice (some ⟨b, 0, none⟩) xs.length xs.length, .slice (some ⟨b', 0, none⟩) oss.length oss.length, .int .i64 L, .int .i64 R]) (by simp [results, Tryd.results47, go_sem, hc, hc2, z2]) rfl ⟨b, b', rfl, by omega, by simpa using hsb, ?_, by omega, by simpa using hsb', ?_, ?_⟩
  · (repeat (refine OpsAt.far ?_ (by omega) _))
    exact unhide HO2
  · (repeat (refine OpssAt.far ?_ (by omega) _))
    exact unhide HP
  · (repeat (refine Below.setCell ?_ (by dsimp only; omega) _))
    exact unhide HD

set_option maxHeartbeats 2000000 in
theorem toPNodeS_calls (v : Value) (ps : List Pn) (w : World) (hv : IsPns w v ps) (hn : ps.length ≤ 1048576) (hk : ∀ p ∈ ps, p.Ex.length ≤ 1048576 ∧ p.Exs.length ≤ 1048576 ∧ bulkO p.Exs ≤ 1048576) :
    Calls Tryd.prog 26 #[v] w fun e w' => ∃ g, e = .returned (.slice (some ⟨g, 0, none⟩) ps.length ps.length) ∧ w.heap.size ≤ g ∧ OwnPns w' g ps.length ps ∧ Below w.heap.size w w' := by
  rcases hv with ⟨rfl, a, cap, rfl⟩ | ⟨g, off, cap, rfl, hg, hr⟩
  · have hmk := make_pns0
    clear hn hk
    go_enter Tryd.func26, Tryd.ntmps26
    go_wp2
    go_loopw [4] (fun i wr => i = .int .i64 0 ∧ OwnPns wr w.heap.size 0 [] ∧ Below w.heap.size w wr) (fun _ _ => 0)
    case atStart => exact ⟨rfl, OwnPns.made w 0 #[] _ rfl, bA (Below.refl _ _) _⟩
    case round =>
      obtain ⟨rfl, ho, hb⟩ := hrel
      go_wp2
      go_ret
      exact ⟨_, rfl, Nat.le_refl _, ho, hb⟩
  · have hmk := make_pns ps.length hn
    have hO : Hid (OwnPns (w.alloc (.cells (madeCells #[.int .i64 0, .int .i64 0, .int .i64 0, .slice none 0 0, .slice none 0 0, .int .i64 0, .int .i64 0] (ps.length * 7)) 93)) w.heap.size ps.length []) := OwnPns.made w _ _ _ (by simp [size_madeCells])
    have HK := hide hk
    have HR := hide hr
    clear hk hr
    go_enter Tryd.func26, Tryd.ntmps26
    go_wp2
    go_loopw [4] (fun i wr => ∃ k : Nat, k ≤ ps.length ∧ i = .int .i64 k ∧ OwnPns wr w.heap.size ps.length (ps.take k) ∧ Below w.heap.size w wr) (fun i _ => ps.length - (intOf i).toNat)
    case atStart => exact ⟨0, Nat.zero_le _, rfl, by simpa using hO.out, bA (Below.refl _ _) _⟩
    case round =>
      clear hO hmk
      obtain ⟨k, hk, rfl, ho, hb⟩ := hrel
      by_cases hlt : k < ps.length
      · obtain ⟨a0, a1, a2, a5, a6, ⟨u, a3, hu⟩, u', a4, hu'⟩ := (unhide HR) k ps[k] (List.getElem?_eq_getElem hlt)
        have c0 := (hb.cell (p := ⟨g, off + k * 7, none⟩) hg).trans a0
        have c1 := (hb.cell (p := ⟨g, off + k * 7 + 1, none⟩) hg).trans a1
        have c2 := (hb.cell (p := ⟨g, off + k * 7 + 2, none⟩) hg).trans a2
        have c3 := (hb.cell (p := ⟨g, off + k * 7 + 3, none⟩) hg).trans a3
        have c4 := (hb.cell (p := ⟨g, off + k * 7 + 4, none⟩) hg).trans a4
        have c5 := (hb.cell (p := ⟨g, off + k * 7 + 5, none⟩) hg).trans a5
        have c6 := (hb.cell (p := ⟨g, off + k * 7 + 6, none⟩) hg).trans a6
        obtain ⟨hk1, hk2, hk3⟩ := unhide HK _ (List.getElem_mem hlt)
        have hput := fun (w1 : World) (h : OwnPns w1 w.heap.size ps.length (ps.take k)) b b' h1 h2 h3 h4 h5 h6 => h.put hlt hlt b b' h1 h2 h3 h4 h5 h6
        have hTN := fun W (hbW : Below w.heap.size w W) => toPNode_calls (ps[k]).K (ps[k]).T (ps[k]).M (ps[k]).L (ps[k]).R u u' (ps[k]).Ex (ps[k]).Exs W (hu.of hbW) (hu'.of hbW) hk1 hk2 hk3
        cases e : ps[k] with | mk K T M Ex Exs L R =>
        rw [e] at c0 c1 c2 c5 c6 hput hTN hu hu'
        simp only at c0 c1 c2 c5 c6 hput hTN hu hu'
        obtain ⟨ua, ucap, rfl⟩ := isOps_slice hu
        obtain ⟨ua', ucap', rfl⟩ := isOpss_slice hu'
        have HTN := hide hTN; have HPut := hide hput
        have HO := hide ho
        have q1 : g < wr.heap.size := Nat.lt_of_lt_of_le hg hb.size
        have j1 : (k : Int) < (ps.length : Int) := by omega
        clear hTN hput hu hu' e ho a0 a1 a2 a3 a4 a5 a6 hk1 hk2 hk3
        go_wp2_with fail
        refine (unhide HTN _ hb).mono ?_; rintro e w1 ⟨b, b', rfl, hb0, hbs, hbo, hb0', hbs', hbo', hb1⟩
        have d1 := bT hb hb1
        have ho1 := (unhide HO).of hb1
        have hN := unhide HPut w1 ho1 b b' (Nat.lt_of_lt_of_le (unhide HO).size hb0) hbs hbo (Nat.lt_of_lt_of_le (unhide HO).size hb0') hbs' hbo'
        obtain ⟨u0, hu0⟩ := ho1.all (k * 7) (by omega)
        obtain ⟨u1, hu1⟩ := ho1.all (k * 7 + 1) (by omega)
        obtain ⟨u2, hu2⟩ := ho1.all (k * 7 + 2) (by omega)
        obtain ⟨u3, hu3⟩ := ho1.all (k * 7 + 3) (by omega)
        obtain ⟨u4, hu4⟩ := ho1.all (k * 7 + 4) (by omega)
        obtain ⟨u5, hu5⟩ := ho1.all (k * 7 + 5) (by omega)
        obtain ⟨u6, hu6⟩ := ho1.all (k * 7 + 6) (by omega)
        have hf := ho1.frz
        have HN := hide hN
        have HB := hide (putPn_below (g := w.heap.size) (o := k * 7) d1 (Nat.le_refl _) ⟨K, T, M, Ex, Exs, L, R⟩ b b')
        clear hN ho1 hbo hbo' hb1 HO HPut HTN c0 c1 c2 c3 c4 c5 c6 hb0 hb0' hbs hbs'
        go_wp2
        go_roundw
        case rel => exact ⟨k + 1, by omega, by go_num, unhide HN, unhide HB⟩
        case measure => simp [intOf]; omega
      · obtain rfl : k = ps.length := by omega
        rw [List.take_length] at ho
        go_wp2
        go_ret
        exact ⟨_, rfl, Nat.le_refl _, ho, hb⟩

set_option maxHeartbeats 1000000 in
theorem toPlan_calls (v : Value) (ps : List Pn) (w : World) (hv : IsPns w v ps) (hn : ps.length ≤ 1048576) (hk : ∀ p ∈ ps, p.Ex.length ≤ 1048576 ∧ p.Exs.length ≤ 1048576 ∧ bulkO p.Exs ≤ 1048576) :
    Calls Tryd.prog 9 #[.agg #[v]] w fun e w' => ∃ g, e = .returned (.agg #[.slice (some ⟨g, 0, none⟩) ps.length ps.length]) ∧ w.heap.size ≤ g ∧ g < w'.heap.size ∧ PnsAt w' g 0 ps ∧ Below w.heap.size w w' := by
  have TI := fun W (hb : Below w.heap.size w W) => toPNodeS_calls v ps W (hv.of hb) hn hk
  have HT := hide TI
  obtain ⟨a, cap, rfl⟩ := isPns_slice hv
  clear TI hv
  go_enter Tryd.func9, Tryd.ntmps9
  go_wp2_with fail
  refine (unhide HT _ (by (repeat (first | exact Below.refl _ _ | refine bA ?_ _)))).mono ?_; rintro e w1 ⟨g, rfl, hg, ho, hb1⟩
  obtain ⟨hc, hf⟩ := bcell hb1
  have hs1 : w.heap.size + 3 ≤ w1.heap.size := by have := hb1.size; simpa using this
  have hg1 : w.heap.size + 3 ≤ g := by simpa using hg
  have HO := hide ho; have HB := hide (bT (by (repeat (first | exact Below.refl _ _ | refine bA ?_ _))) hb1 : Below w.heap.size w w1)
  clear ho hb1 hg
  go_wp2
  refine bodyPost_ret (v := .agg #[.slice (some ⟨g, 0, none⟩) ps.length ps.length]) (by simp [results, Tryd.results9, go_sem, hc]) rfl ⟨g, rfl, by omega, ?_, ?_, ?_⟩
  · have := (unhide HO).size
    simpa using this
  · exact ((unhide HO).held.far (X := w.heap.size + 1 + 1) (O := 0) (by omega) _).far (X := w.heap.size + 1) (O := 0) (by omega) _
  · exact ((unhide HB).setCell (p := ⟨w.heap.size + 1 + 1, 0, none⟩) (by dsimp only; omega) _).setCell (p := ⟨w.heap.size + 1, 0, none⟩) (by dsimp only; omega) _
end Go.Proofs.YtkdeilhkobcglaaDoor
/-
  HOW MUCH PLANS HOLD, as the law counts it.
-/
namespace Go.Proofs.YtkdeilhkobcglaaDoor
open Go Go.RowKit

theorem szOpS_szr (v : Value) (xs : List O2) (left : Int) (w : World) (hv : IsOps w v xs) (hl : xs.length ≤ maxLen) (h0 : 0 ≤ left) (h1 : left ≤ 1048576) :
    Calls Tryd.prog 72 #[v, .int .i64 left] w fun e w' => e = .returned (.int .i64 (szr left xs.length)) ∧ w' = w := szOpS_calls v xs left w hv hl h0 h1

set_option maxHeartbeats 1000000 in
theorem szOpSS_calls (v : Value) (oss : List (List O2)) (left : Int) (w : World) (hv : IsOpss w v oss) (hl : oss.length ≤ maxLen) (hl2 : ∀ xs ∈ oss, xs.length ≤ maxLen) (h0 : 0 ≤ left) (h1 : left ≤ 1048576) :
    Calls Tryd.prog 73 #[v, .int .i64 left] w fun e w' => e = .returned (.int .i64 (szr left (oss.length + bulkO oss))) ∧ w' = w := by
  have HV := hide hv
  obtain ⟨a, cap, rfl⟩ := isOpss_slice hv
  have HF := hide hl2
  clear hv hl2
  unfold maxLen at hl
  by_cases c1 : left < (oss.length : Int)
  · have HE : Hid (szr left (oss.length + bulkO oss) = -1) := by show _ = _; unfold szr; rw [if_pos (by omega)]
    go_enter Tryd.func73, Tryd.ntmps73
    go_wp2
    go_ret
    exact ⟨congrArg (fun z => Ending.returned (.int .i64 z)) HE.out.symm, rfl⟩
  go_enter Tryd.func73, Tryd.ntmps73
  go_wp2
  go_loopw [1, 5] (fun l c wr => ∃ (k : Nat) (lv : Int), k ≤ oss.length ∧ c = .int .i64 k ∧ l = .int .i64 lv ∧ lv = left - (oss.length : Int) - (bulkO (oss.take k) : Int) ∧ 0 ≤ lv ∧ wr = w) (fun _ c _ => oss.length - (intOf c).toNat)
  case atStart => exact ⟨0, _, Nat.zero_le _, rfl, rfl, by simp [bulkO], by omega, rfl⟩
  case round =>
    obtain ⟨k, lv, hk, rfl, rfl, hlv, hlv0, rfl⟩ := hrel
    have HLV := hide hlv
    have hlv1 : lv ≤ 1048576 := by omega
    clear hlv
    by_cases hlt : k < oss.length
    · obtain ⟨g, off, rfl, hg, ua, ucap, hu, hiu⟩ : ∃ g off, a = some ⟨g, off, none⟩ ∧ g < wr.heap.size ∧ ∃ ua ucap, wr.cell? ⟨g, off + k, none⟩ = some (.slice ua (oss[k]).length ucap) ∧ IsOps wr (.slice ua (oss[k]).length ucap) oss[k] := by
        rcases unhide HV with ⟨h, _⟩ | ⟨g, off, cap', he, hg, hr⟩
        · subst h; simp at hlt
        · simp only [Value.slice.injEq, true_and] at he
          obtain ⟨rfl, rfl⟩ := he
          obtain ⟨u, hu, hiu⟩ := hr k oss[k] (List.getElem?_eq_getElem hlt)
          obtain ⟨ua, ucap, rfl⟩ := isOps_slice hiu
          exact ⟨g, off, rfl, hg, ua, ucap, hu, hiu⟩
      have SN := szOpS_szr _ oss[k] lv wr hiu (unhide HF _ (List.getElem_mem hlt)) hlv0 hlv1
      have hbt := bulkO_take oss k hlt
      have hble := bulkO_take_le oss (k + 1)
      have j1 : (k : Int) < (oss.length : Int) := by omega
      clear hiu
      generalize (oss[k]).length = tot at *
      by_cases hlow : lv < (tot : Int)
      · have HE : Hid (szr left (oss.length + bulkO oss) = -1) := by
          show _ = _
          have := unhide HLV
          unfold szr
          rw [if_pos (by omega)]
        have e2 : szr lv tot = -1 := by unfold szr; rw [if_pos hlow]
        rw [e2] at SN
        have HSN := hide SN
        clear SN e2
        go_wp2_with fail
        refine (unhide HSN).mono ?_; rintro e w1 ⟨rfl, rfl⟩
        go_wp2
        go_ret
        exact ⟨congrArg (fun z => Ending.returned (.int .i64 z)) HE.out.symm, rfl⟩
      · have e2 : szr lv tot = lv - (tot : Int) := by unfold szr; rw [if_neg hlow]
        rw [e2] at SN
        have HSN := hide SN; have HBT := hide hbt
        have n1 : ¬ lv - (tot : Int) < 0 := by omega
        clear SN e2 hbt hble
        go_wp2_with fail
        refine (unhide HSN).mono ?_; rintro e w1 ⟨rfl, rfl⟩
        go_wp2
        go_roundw
        case rel => exact ⟨k + 1, _, by omega, by go_num, rfl, by have := unhide HLV; have := unhide HBT; omega, by omega, by first | rfl | trivial⟩
        case measure => simp [intOf]; omega
    · obtain rfl : k = oss.length := by omega
      have HE : Hid (szr left (oss.length + bulkO oss) = lv) := by
        show _ = _
        have := unhide HLV
        rw [List.take_length] at this
        unfold szr
        rw [if_neg (by omega)]
        omega
      clear HLV
      go_wp2
      go_ret
      exact ⟨congrArg (fun z => Ending.returned (.int .i64 z)) HE.out.symm, rfl⟩

theorem szr_szr (left : Int) (a b : Nat) (h : 0 ≤ szr left a) : szr (szr left a) b = szr left (a + b) := by
  unfold szr at h ⊢
  by_cases h1 : left < (a : Int)
  · rw [if_pos h1] at h; omega
  · rw [if_neg h1] at h ⊢
    by_cases h2 : left - (a : Int) < (b : Int)
    · rw [if_pos h2, if_pos (by omega)]
    · rw [if_neg h2, if_neg (by omega)]; omega
theorem szr_neg (left : Int) (a b : Nat) (h : szr left a < 0) (_ : 0 ≤ left) : szr left (a + b) = -1 := by
  unfold szr at h ⊢
  by_cases h1 : left < (a : Int)
  · rw [if_pos (by omega)]
  · rw [if_neg h1] at h; omega
theorem szr_le (left : Int) (a : Nat) (h1 : left ≤ 1048576) : szr left a ≤ 1048576 := by unfold szr; split <;> omega
theorem szr_two (left : Int) (a : Nat) : szr left a = -1 ∨ 0 ≤ szr left a := by unfold szr; split <;> omega

set_option maxHeartbeats 1000000 in
theorem szPNode_calls (K T M L R : Int) (v v' : Value) (xs : List O2) (oss : List (List O2)) (left : Int) (w : World) (hv : IsOps w v xs) (hv' : IsOpss w v' oss) (hl : xs.length ≤ maxLen) (hl' : oss.length ≤ maxLen) (hl2 : ∀ xs ∈ oss, xs.length ≤ maxLen) (h0 : 0 ≤ left) (h1 : left ≤ 1048576) :
    Calls Tryd.prog 39 #[.agg #[.int .i64 K, .int .i64 T, .int .i64 M, v, v', .int .i64 L, .int .i64 R], .int .i64 left] w fun e w' => e = .returned (.int .i64 (szr left (xs.length + (oss.length + bulkO oss)))) ∧ Below w.heap.size w w' := by
  have S1 := fun W (hb : Below w.heap.size w W) => szOpS_szr v xs left W (hv.of hb) hl h0 h1
  have S2 := fun W (hb : Below w.heap.size w W) (l : Int) h0 h1 => szOpSS_calls v' oss l W (hv'.of hb) hl' hl2 h0 h1
  obtain ⟨a, cap, rfl⟩ := isOps_slice hv
  obtain ⟨a', cap', rfl⟩ := isOpss_slice hv'
  have hA := szr_two left xs.length
  have hB := szr_le left xs.length h1
  have hC := szr_szr left xs.length (oss.length + bulkO oss)
  have hD := fun h => szr_neg left xs.length (oss.length + bulkO oss) h h0
  have S3 := fun W hb (h : 0 ≤ szr left xs.length) => S2 W hb (szr left xs.length) h hB
  have hE := szr_two left (xs.length + (oss.length + bulkO oss))
  generalize szr left (xs.length + (oss.length + bulkO oss)) = z at *
  generalize szr left xs.length = y at *
  have HS1 := hide S1; have HS3 := hide S3; have HC := hide hC; have HD := hide hD
  clear S1 S2 S3 hv hv' hl2 hC hD
  by_cases hy : y < 0
  · have HZ := hide (unhide HD hy)
    have HY := hide (show y = -1 by omega)
    clear HD HC HS3 hA hE
    go_enter Tryd.func39, Tryd.ntmps39
    go_wp2_with fail
    refine (unhide HS1 _ (bA (Below.refl _ _) _)).mono ?_; rintro e w1 ⟨rfl, rfl⟩
    go_wp2
    go_ret
    exact ⟨congrArg (fun z => Ending.returned (.int .i64 z)) (unhide HZ).symm, bA (Below.refl _ _) _⟩
  · have S4 := fun W hb => unhide HS3 W hb (by omega)
    rw [unhide HC (by omega)] at S4
    have HS4 := hide S4
    clear S4 HS3 HC HD hA
    by_cases hz : z < 0
    · have HZ := hide (show z = -1 by omega)
      clear hE
      go_enter Tryd.func39, Tryd.ntmps39
      go_wp2_with fail
      refine (unhide HS1 _ (bA (Below.refl _ _) _)).mono ?_; rintro e w1 ⟨rfl, rfl⟩
      go_wp2_with fail
      refine (unhide HS4 _ (bA (Below.refl _ _) _)).mono ?_; rintro e w1 ⟨rfl, rfl⟩
      go_wp2
      go_ret
      exact ⟨congrArg (fun z => Ending.returned (.int .i64 z)) (unhide HZ).symm, bA (Below.refl _ _) _⟩
    · clear hE
      go_enter Tryd.func39, Tryd.ntmps39
      go_wp2_with fail
      refine (unhide HS1 _ (bA (Below.refl _ _) _)).mono ?_; rintro e w1 ⟨rfl, rfl⟩
      go_wp2_with fail
      refine (unhide HS4 _ (bA (Below.refl _ _) _)).mono ?_; rintro e w1 ⟨rfl, rfl⟩
      go_wp2
      go_ret
      exact ⟨rfl, bA (Below.refl _ _) _⟩

/-- no list is longer than an argument can be -/
def FitsP (ps : List Pn) : Prop := ∀ p ∈ ps, p.Ex.length ≤ maxLen ∧ p.Exs.length ≤ maxLen ∧ ∀ xs ∈ p.Exs, xs.length ≤ maxLen

set_option maxHeartbeats 2000000 in
theorem szPNodeS_calls (v : Value) (ps : List Pn) (left : Int) (w : World) (hv : IsPns w v ps) (hl : ps.length ≤ maxLen) (hf : FitsP ps) (h0 : 0 ≤ left) (h1 : left ≤ 1048576) :
    Calls Tryd.prog 21 #[v, .int .i64 left] w fun e w' => e = .returned (.int .i64 (szr left (ps.length + bulkP ps))) ∧ Below w.heap.size w w' := by
  have HV := hide hv
  obtain ⟨a, cap, rfl⟩ := isPns_slice hv
  have HF := hide hf
  clear hv hf
  unfold maxLen at hl
  by_cases c1 : left < (ps.length : Int)
  · have HE : Hid (szr left (ps.length + bulkP ps) = -1) := by show _ = _; unfold szr; rw [if_pos (by omega)]
    go_enter Tryd.func21, Tryd.ntmps21
    go_wp2
    go_ret
    exact ⟨congrArg (fun z => Ending.returned (.int .i64 z)) HE.out.symm, Below.refl _ _⟩
  go_enter Tryd.func21, Tryd.ntmps21
  go_wp2
  go_loopw [1, 5] (fun l c wr => ∃ (k : Nat) (lv : Int), k ≤ ps.length ∧ c = .int .i64 k ∧ l = .int .i64 lv ∧ lv = left - (ps.length : Int) - (bulkP (ps.take k) : Int) ∧ 0 ≤ lv ∧ Below w.heap.size w wr) (fun _ c _ => ps.length - (intOf c).toNat)
  case atStart => exact ⟨0, _, Nat.zero_le _, rfl, rfl, by simp [bulkP], by omega, Below.refl _ _⟩
  case round =>
    obtain ⟨k, lv, hk, rfl, rfl, hlv, hlv0, hb⟩ := hrel
    have HLV := hide hlv
    have hlv1 : lv ≤ 1048576 := by omega
    clear hlv
    by_cases hlt : k < ps.length
    · obtain ⟨g, off, rfl, hg, a0, a1, a2, a5, a6, ⟨ua, ucap, a3, hu⟩, ua', ucap', a4, hu'⟩ : ∃ g off, a = some ⟨g, off, none⟩ ∧ g < w.heap.size ∧ w.cell? ⟨g, off + k * 7, none⟩ = some (.int .i64 (ps[k]).K) ∧ w.cell? ⟨g, off + k * 7 + 1, none⟩ = some (.int .i64 (ps[k]).T) ∧ w.cell? ⟨g, off + k * 7 + 2, none⟩ = some (.int .i64 (ps[k]).M) ∧
          w.cell? ⟨g, off + k * 7 + 5, none⟩ = some (.int .i64 (ps[k]).L) ∧ w.cell? ⟨g, off + k * 7 + 6, none⟩ = some (.int .i64 (ps[k]).R) ∧
          (∃ ua ucap, w.cell? ⟨g, off + k * 7 + 3, none⟩ = some (.slice ua (ps[k]).Ex.length ucap) ∧ IsOps w (.slice ua (ps[k]).Ex.length ucap) (ps[k]).Ex) ∧ ∃ ua ucap, w.cell? ⟨g, off + k * 7 + 4, none⟩ = some (.slice ua (ps[k]).Exs.length ucap) ∧ IsOpss w (.slice ua (ps[k]).Exs.length ucap) (ps[k]).Exs := by
        rcases unhide HV with ⟨h, _⟩ | ⟨g, off, cap', he, hg, hr⟩
        · subst h; simp at hlt
        · simp only [Value.slice.injEq, true_and] at he
          obtain ⟨rfl, rfl⟩ := he
          obtain ⟨b0, b1, b2, b5, b6, ⟨u, b3, hu⟩, u', b4, hu'⟩ := hr k ps[k] (List.getElem?_eq_getElem hlt)
          obtain ⟨ua, ucap, rfl⟩ := isOps_slice hu
          obtain ⟨ua', ucap', rfl⟩ := isOpss_slice hu'
          exact ⟨g, off, rfl, hg, b0, b1, b2, b5, b6, ⟨ua, ucap, b3, hu⟩, ua', ucap', b4, hu'⟩
      have c0 := (hb.cell (p := ⟨g, off + k * 7, none⟩) hg).trans a0
      have c1' := (hb.cell (p := ⟨g, off + k * 7 + 1, none⟩) hg).trans a1
      have c2 := (hb.cell (p := ⟨g, off + k * 7 + 2, none⟩) hg).trans a2
      have c3 := (hb.cell (p := ⟨g, off + k * 7 + 3, none⟩) hg).trans a3
      have c4 := (hb.cell (p := ⟨g, off + k * 7 + 4, none⟩) hg).trans a4
      have c5 := (hb.cell (p := ⟨g, off + k * 7 + 5, none⟩) hg).trans a5
      have c6 := (hb.cell (p := ⟨g, off + k * 7 + 6, none⟩) hg).trans a6
      obtain ⟨f1, f2, f3⟩ := unhide HF _ (List.getElem_mem hlt)
      have SN := szPNode_calls (ps[k]).K (ps[k]).T (ps[k]).M (ps[k]).L (ps[k]).R _ _ (ps[k]).Ex (ps[k]).Exs lv wr (hu.of hb) (hu'.of hb) f1 f2 f3 hlv0 hlv1
      have hbt := bulkP_take ps k hlt
      have hble := bulkP_take_le ps (k + 1)
      have q1 : g < wr.heap.size := Nat.lt_of_lt_of_le hg hb.size
      have j1 : (k : Int) < (ps.length : Int) := by omega
      clear hu hu' f1 f2 f3 a0 a1 a2 a3 a4 a5 a6
      generalize (ps[k]).Ex.length + ((ps[k]).Exs.length + bulkO (ps[k]).Exs) = tot at *
      cases e : ps[k] with | mk K T M Ex Exs L R =>
      rw [e] at c0 c1' c2 c3 c4 c5 c6 SN
      simp only at c0 c1' c2 c3 c4 c5 c6 SN
      clear e
      by_cases hlow : lv < (tot : Int)
      · have HE : Hid (szr left (ps.length + bulkP ps) = -1) := by
          show _ = _
          have := unhide HLV
          unfold szr
          rw [if_pos (by omega)]
        have e2 : szr lv tot = -1 := by unfold szr; rw [if_pos hlow]
        rw [e2] at SN
        have HSN := hide SN
        clear SN e2
        go_wp2_with fail
        refine (unhide HSN).mono ?_; rintro e w1 ⟨rfl, hb1⟩
        go_wp2
        go_ret
        exact ⟨congrArg (fun z => Ending.returned (.int .i64 z)) HE.out.symm, bT hb hb1⟩
      · have e2 : szr lv tot = lv - (tot : Int) := by unfold szr; rw [if_neg hlow]
        rw [e2] at SN
        have HSN := hide SN; have HBT := hide hbt
        have n1 : ¬ lv - (tot : Int) < 0 := by omega
        clear SN e2 hbt hble
        go_wp2_with fail
        refine (unhide HSN).mono ?_; rintro e w1 ⟨rfl, hb1⟩
        go_wp2
        go_roundw
        case rel => exact ⟨k + 1, _, by omega, by go_num, rfl, by have := unhide HLV; have := unhide HBT; omega, by omega, bT hb hb1⟩
        case measure => simp [intOf]; omega
    · obtain rfl : k = ps.length := by omega
      have HE : Hid (szr left (ps.length + bulkP ps) = lv) := by
        show _ = _
        have := unhide HLV
        rw [List.take_length] at this
        unfold szr
        rw [if_neg (by omega)]
        omega
      clear HLV
      go_wp2
      go_ret
      exact ⟨congrArg (fun z => Ending.returned (.int .i64 z)) HE.out.symm, hb⟩

theorem szPlan_calls (v : Value) (ps : List Pn) (left : Int) (w : World) (hv : IsPns w v ps) (hl : ps.length ≤ maxLen) (hf : FitsP ps) (h0 : 0 ≤ left) (h1 : left ≤ 1048576) :
    Calls Tryd.prog 6 #[.agg #[v], .int .i64 left] w fun e w' => e = .returned (.int .i64 (szr left (ps.length + bulkP ps))) ∧ Below w.heap.size w w' := by
  have SN := fun W (hb : Below w.heap.size w W) => szPNodeS_calls v ps left W (hv.of hb) hl hf h0 h1
  obtain ⟨a, cap, rfl⟩ := isPns_slice hv
  have hz : szr left (ps.length + bulkP ps) = -1 ∨ 0 ≤ szr left (ps.length + bulkP ps) := by unfold szr; split <;> omega
  generalize szr left (ps.length + bulkP ps) = z at *
  have HSN := hide SN
  clear SN hv hf
  by_cases hz' : z < 0
  · have : z = -1 := by omega
    have HZ := hide this
    clear this hz
    go_enter Tryd.func6, Tryd.ntmps6
    go_wp2_with fail
    refine (unhide HSN _ (bA (Below.refl _ _) _)).mono ?_; rintro e w1 ⟨rfl, hb1⟩
    go_wp2
    go_ret
    exact ⟨congrArg (fun z => Ending.returned (.int .i64 z)) (unhide HZ).symm, bT (bA (Below.refl _ _) _) hb1⟩
  · clear hz
    go_enter Tryd.func6, Tryd.ntmps6
    go_wp2_with fail
    refine (unhide HSN _ (bA (Below.refl _ _) _)).mono ?_; rintro e w1 ⟨rfl, hb1⟩
    go_wp2
    go_ret
    exact ⟨rfl, bT (bA (Below.refl _ _) _) hb1⟩
end Go.Proofs.YtkdeilhkobcglaaDoor
/-
  PLANS THAT ARE ALIKE.
-/
namespace Go.Proofs.YtkdeilhkobcglaaDoor
open Go Go.RowKit

set_option maxHeartbeats 2000000 in
theorem eqOpSS_calls (oss : List (List O2)) (g g' cap cap' : Nat) (w : World) (hg : g < w.heap.size) (hg' : g' < w.heap.size) (hx : OpssAt w g oss) (hy : OpssAt w g' oss) (b1 : oss.length ≤ 1048576) (hk : ∀ xs ∈ oss, xs.length ≤ 1048576) :
    Calls Tryd.prog 87 #[.slice (some ⟨g, 0, none⟩) oss.length cap, .slice (some ⟨g', 0, none⟩) oss.length cap'] w fun e w' => e = .returned (.bool true) ∧ Below w.heap.size w w' := by
  have e0 : ((oss.length : Int) != (oss.length : Int)) = false := by simp
  have HX := hide hx; have HY := hide hy; have HK := hide hk
  clear hx hy hk
  go_enter Tryd.func87, Tryd.ntmps87
  go_wp2
  go_loopw [5] (fun c wr => ∃ k : Nat, k ≤ oss.length ∧ c = .int .i64 k ∧ Below w.heap.size w wr) (fun c _ => oss.length - (intOf c).toNat)
  case atStart => exact ⟨0, Nat.zero_le _, rfl, Below.refl _ _⟩
  case round =>
    obtain ⟨k, hk1, rfl, hb⟩ := hrel
    by_cases l1 : k < oss.length
    · obtain ⟨bx, x0, _, hbx, hox⟩ := ((unhide HX).of hg hb) k oss[k] (List.getElem?_eq_getElem l1)
      obtain ⟨by', y0, _, hby, hoy⟩ := ((unhide HY).of hg' hb) k oss[k] (List.getElem?_eq_getElem l1)
      have hkl := unhide HK _ (List.getElem_mem l1)
      have j1 : (k : Int) < (oss.length : Int) := by omega
      have q1 : g < wr.heap.size := Nat.lt_of_lt_of_le hg hb.size
      have q2 : g' < wr.heap.size := Nat.lt_of_lt_of_le hg' hb.size
      have EN : Hid (∀ W, Std wr W → Calls Tryd.prog 86 #[.slice (some ⟨bx, 0, none⟩) (oss[k]).length (oss[k]).length, .slice (some ⟨by', 0, none⟩) (oss[k]).length (oss[k]).length] W fun e w' => e = .returned (.bool true) ∧ Below W.heap.size W w') :=
        fun W h => eqOpS_calls oss[k] bx 0 _ by' 0 _ W (Nat.lt_of_lt_of_le hbx h.2.2.size) (Nat.lt_of_lt_of_le hby h.2.2.size) (hox.of hbx h.2.2) (hoy.of hby h.2.2) hkl
      clear hox hoy hkl
      generalize (oss[k]).length = n at *
      go_upto_region 6 with fail
      have h1 := Below.refl wr.heap.size wr
      have h2 := h1
      go_region_held3 (Std wr) (repeat (first | with_reducible assumption | with_reducible exact Std.refl _ | with_reducible refine Std.drew ?_ | with_reducible refine Std.alloc ?_ _ | with_reducible refine Std.setCell ?_ ?_ _ | with_reducible refine Std.call ?_ (by with_reducible assumption) | (simp <;> omega) | omega)) (first | (go_at_call 86; refine (unhide EN _ (by assumption)).mono ?_; rintro e w1 ⟨rfl, hb⟩; (first | have n3 := bT h2 hb | have n3 := bT (bA h2 _) hb | have n3 := bT (Below.drew h2) hb | have n3 := bT (Below.drew (bA h2 _)) hb | have n3 := bT (bA (Below.drew h2) _) hb); (first | have n2 := bT h1 hb | have n2 := bT (bA h1 _) hb | have n2 := bT (Below.drew h1) hb | have n2 := bT (Below.drew (bA h1 _)) hb | have n2 := bT (bA (Below.drew h1) _) hb); obtain ⟨c1, f1⟩ := bcell hb; obtain ⟨c2, f2⟩ := bcell n2; obtain ⟨c3, f3⟩ := bcell n3; have hs := hb.size; (try simp at hs); clear h1 h2; have h1 := hb; have h2 := n2; clear n2 hb))
      have hS : Std wr w1 := by assumption
      have d2 := bT hb hS.2.2
      go_wp2
      go_roundw
      case rel => exact ⟨k + 1, by omega, by go_num, d2⟩
      case measure => simp [intOf]; omega
    · go_wp2
      go_ret
      exact ⟨rfl, hb⟩

set_option maxHeartbeats 1000000 in
theorem eqPNode_calls (K T M L R : Int) (xs : List O2) (oss : List (List O2)) (b b' d d' : Nat) (w : World) (hb : b < w.heap.size) (hb' : b' < w.heap.size) (hd : d < w.heap.size) (hd' : d' < w.heap.size) (hx : OpsAt w b 0 xs) (hy : OpsAt w b' 0 xs) (hX : OpssAt w d oss) (hY : OpssAt w d' oss)
    (b1 : xs.length ≤ 1048576) (b2 : oss.length ≤ 1048576) (hk : ∀ xs ∈ oss, xs.length ≤ 1048576) :
    Calls Tryd.prog 56 #[.agg #[.int .i64 K, .int .i64 T, .int .i64 M, .slice (some ⟨b, 0, none⟩) xs.length xs.length, .slice (some ⟨d, 0, none⟩) oss.length oss.length, .int .i64 L, .int .i64 R], .agg #[.int .i64 K, .int .i64 T, .int .i64 M, .slice (some ⟨b', 0, none⟩) xs.length xs.length, .slice (some ⟨d', 0, none⟩) oss.length oss.length, .int .i64 L, .int .i64 R]] w fun e w' => e = .returned (.bool true) ∧ Below w.heap.size w w' := by
  have E1 := fun W (h : Below w.heap.size w W) => eqOpS_calls xs b 0 xs.length b' 0 xs.length W (Nat.lt_of_lt_of_le hb h.size) (Nat.lt_of_lt_of_le hb' h.size) (hx.of hb h) (hy.of hb' h) b1
  have E2 := fun W (h : Below w.heap.size w W) => eqOpSS_calls oss d d' oss.length oss.length W (Nat.lt_of_lt_of_le hd h.size) (Nat.lt_of_lt_of_le hd' h.size) (hX.of hd h) (hY.of hd' h) b2 hk
  have H1 := hide E1; have H2 := hide E2
  have eK : (K != K) = false := by simp
  have eT : (T != T) = false := by simp
  have eM : (M != M) = false := by simp
  have eL : (L != L) = false := by simp
  have eR : (R != R) = false := by simp
  clear E1 E2 hx hy hX hY hk
  go_enter Tryd.func56, Tryd.ntmps56
  go_wp2_with fail
  refine (unhide H1 _ (bA (bA (Below.refl _ _) _) _)).mono ?_; rintro e w1 ⟨rfl, hb1⟩
  have d1 := bT (bA (bA (Below.refl w.heap.size w) _) _) hb1
  obtain ⟨hc, hf⟩ := bcell hb1
  have z0 : w.heap.size < w1.heap.size := by have := hb1.size; simp at this; omega
  have z1 : w.heap.size + 1 < w1.heap.size := by have := hb1.size; simp at this; omega
  clear hb1
  go_wp2_with fail
  refine (unhide H2 _ d1).mono ?_; rintro e w2 ⟨rfl, hb2⟩
  have d2 := bT d1 hb2
  obtain ⟨hc2, hf2⟩ := bcell hb2
  clear hb2
  go_wp2
  go_ret
  exact ⟨rfl, d2⟩

set_option maxHeartbeats 2000000 in
theorem eqPNodeS_calls (ps : List Pn) (g g' cap cap' : Nat) (w : World) (hg : g < w.heap.size) (hg' : g' < w.heap.size) (hx : PnsAt w g 0 ps) (hy : PnsAt w g' 0 ps) (b1 : ps.length ≤ 1048576) (hk : ∀ p ∈ ps, p.Ex.length ≤ 1048576 ∧ p.Exs.length ≤ 1048576 ∧ bulkO p.Exs ≤ 1048576) :
    Calls Tryd.prog 29 #[.slice (some ⟨g, 0, none⟩) ps.length cap, .slice (some ⟨g', 0, none⟩) ps.length cap'] w fun e w' => e = .returned (.bool true) ∧ Below w.heap.size w w' := by
  have e0 : ((ps.length : Int) != (ps.length : Int)) = false := by simp
  have HX := hide hx; have HY := hide hy; have HK := hide hk
  clear hx hy hk
  go_enter Tryd.func29, Tryd.ntmps29
  go_wp2
  go_loopw [5] (fun c wr => ∃ k : Nat, k ≤ ps.length ∧ c = .int .i64 k ∧ Below w.heap.size w wr) (fun c _ => ps.length - (intOf c).toNat)
  case atStart => exact ⟨0, Nat.zero_le _, rfl, Below.refl _ _⟩
  case round =>
    obtain ⟨k, hk1, rfl, hb⟩ := hrel
    by_cases l1 : k < ps.length
    · obtain ⟨x0, x1, x2, x5, x6, ⟨bx, x3, _, hbx, hox⟩, dx, x4, _, hdx, hpx⟩ := ((unhide HX).of hg hb).at k l1
      obtain ⟨y0, y1, y2, y5, y6, ⟨bY, y3, _, hbY, hoy⟩, dY, y4, _, hdY, hpy⟩ := ((unhide HY).of hg' hb).at k l1
      obtain ⟨hk1', hk2', hk3'⟩ := unhide HK _ (List.getElem_mem l1)
      simp only [Nat.zero_add] at x0 x1 x2 x3 x4 x5 x6 y0 y1 y2 y3 y4 y5 y6
      have j1 : (k : Int) < (ps.length : Int) := by omega
      have q1 : g < wr.heap.size := Nat.lt_of_lt_of_le hg hb.size
      have q2 : g' < wr.heap.size := Nat.lt_of_lt_of_le hg' hb.size
      cases e : ps[k] with | mk K T M Ex Exs L R =>
      rw [e] at x0 x1 x2 x3 x4 x5 x6 y0 y1 y2 y3 y4 y5 y6 hox hoy hpx hpy hk1' hk2' hk3'
      simp only at x0 x1 x2 x3 x4 x5 x6 y0 y1 y2 y3 y4 y5 y6 hox hoy hpx hpy hk1' hk2' hk3'
      have EN : Hid (∀ W, Std wr W → Calls Tryd.prog 56 #[.agg #[.int .i64 K, .int .i64 T, .int .i64 M, .slice (some ⟨bx, 0, none⟩) Ex.length Ex.length, .slice (some ⟨dx, 0, none⟩) Exs.length Exs.length, .int .i64 L, .int .i64 R], .agg #[.int .i64 K, .int .i64 T, .int .i64 M, .slice (some ⟨bY, 0, none⟩) Ex.length Ex.length, .slice (some ⟨dY, 0, none⟩) Exs.length Exs.length, .int .i64 L, .int .i64 R]] W fun e w' => e = .returned (.bool true) ∧ Below W.heap.size W w') :=
        fun W h => eqPNode_calls K T M L R Ex Exs bx bY dx dY W (Nat.lt_of_lt_of_le hbx h.2.2.size) (Nat.lt_of_lt_of_le hbY h.2.2.size) (Nat.lt_of_lt_of_le hdx h.2.2.size) (Nat.lt_of_lt_of_le hdY h.2.2.size) (hox.of hbx h.2.2) (hoy.of hbY h.2.2) (hpx.of hdx h.2.2) (hpy.of hdY h.2.2) hk1' hk2' (fun xs hxs => Nat.le_trans (bulkO_mem hxs) hk3')
      clear e hox hoy hpx hpy
      go_upto_region 6 with fail
      have h1 := Below.refl wr.heap.size wr
      have h2 := h1
      go_region_held3 (Std wr) (repeat (first | with_reducible assumption | with_reducible exact Std.refl _ | with_reducible refine Std.drew ?_ | with_reducible refine Std.alloc ?_ _ | with_reducible refine Std.setCell ?_ ?_ _ | with_reducible refine Std.call ?_ (by with_reducible assumption) | (simp <;> omega) | omega)) (first | (go_at_call 56; refine (unhide EN _ (by assumption)).mono ?_; rintro e w1 ⟨rfl, hb⟩; (first | have n3 := bT h2 hb | have n3 := bT (bA h2 _) hb | have n3 := bT (Below.drew h2) hb | have n3 := bT (Below.drew (bA h2 _)) hb | have n3 := bT (bA (Below.drew h2) _) hb); (first | have n2 := bT h1 hb | have n2 := bT (bA h1 _) hb | have n2 := bT (Below.drew h1) hb | have n2 := bT (Below.drew (bA h1 _)) hb | have n2 := bT (bA (Below.drew h1) _) hb); obtain ⟨c1, f1⟩ := bcell hb; obtain ⟨c2, f2⟩ := bcell n2; obtain ⟨c3, f3⟩ := bcell n3; have hs := hb.size; (try simp at hs); clear h1 h2; have h1 := hb; have h2 := n2; clear n2 hb))
      have hS : Std wr w1 := by assumption
      have d2 := bT hb hS.2.2
      go_wp2
      go_roundw
      case rel => exact ⟨k + 1, by omega, by go_num, d2⟩
      case measure => simp [intOf]; omega
    · go_wp2
      go_ret
      exact ⟨rfl, hb⟩

theorem eqPlan_calls (ps : List Pn) (g g' cap cap' : Nat) (w : World) (hg : g < w.heap.size) (hg' : g' < w.heap.size) (hx : PnsAt w g 0 ps) (hy : PnsAt w g' 0 ps) (b1 : ps.length ≤ 1048576) (hk : ∀ p ∈ ps, p.Ex.length ≤ 1048576 ∧ p.Exs.length ≤ 1048576 ∧ bulkO p.Exs ≤ 1048576) :
    Calls Tryd.prog 12 #[.agg #[.slice (some ⟨g, 0, none⟩) ps.length cap], .agg #[.slice (some ⟨g', 0, none⟩) ps.length cap']] w fun e w' => e = .returned (.bool true) ∧ Below w.heap.size w w' := by
  have EN := fun W (hb : Below w.heap.size w W) => eqPNodeS_calls ps g g' cap cap' W (Nat.lt_of_lt_of_le hg hb.size) (Nat.lt_of_lt_of_le hg' hb.size) (hx.of hg hb) (hy.of hg' hb) b1 hk
  have HEN := hide EN
  clear EN hx hy hk
  go_enter Tryd.func12, Tryd.ntmps12
  go_wp2_with fail
  refine (unhide HEN _ (bA (bA (Below.refl _ _) _) _)).mono ?_; rintro e w1 ⟨rfl, hb1⟩
  go_wp2
  go_ret
  exact ⟨rfl, bT (bA (bA (Below.refl _ _) _) _) hb1⟩
end Go.Proofs.YtkdeilhkobcglaaDoor
