import Derived.Test.YtbbjhepagkkjeaaGreatDoorQ8
import Derived.Test.YtbbjhepagkkjeaaGreatDoorQ2
import Derived.Test.YtbbjhepagkkjeaaGreatDoorQ7
import Derived.Test.YtbbjhepagkkjeaaGreatDoorQ11
import Derived.BigQuiet
import Derived.Deep.RegionHeld3
import Derived.Deep.DeepCutAuto
namespace Go.Proofs.YtbbjhepagkkjeaaGreatDoor
open Go Go.RowKit
structure Pn where
  K : Int
  T : Int
  M : Int
  Ex : List O2
  Exs : List (List O2)
  L : Int
  R : Int
def IsOpss (w : World) (v : Value) (oss : List (List O2)) : Prop :=
  (oss = [] ∧ ∃ a cap, v = .slice a 0 cap) ∨ ∃ g off cap, v = .slice (some ⟨g, off, none⟩) oss.length cap ∧ g < w.heap.size ∧ ∀ i xs, oss[i]? = some xs → ∃ u, w.cell? ⟨g, off + i, none⟩ = some u ∧ IsOps w u xs
theorem IsOpss.of {w w1 : World} {v : Value} {oss : List (List O2)} (h : IsOpss w v oss) (hb : Below w.heap.size w w1) : IsOpss w1 v oss := by
  rcases h with h | ⟨g, off, cap, h1, h2, h3⟩
  · exact Or.inl h
  · refine Or.inr ⟨g, off, cap, h1, Nat.lt_of_lt_of_le h2 hb.size, fun i xs hx => ?_⟩
    obtain ⟨u, hu, hr⟩ := h3 i xs hx
    exact ⟨u, (hb.cell (p := ⟨g, off + i, none⟩) h2).trans hu, hr.of hb⟩
theorem OpsAt.far {w : World} {g off : Nat} {xs : List O2} (h : OpsAt w g off xs) {X O : Nat} (hne : X ≠ g) (v : Value) : OpsAt (w.setCell ⟨X, O, none⟩ v) g off xs := fun i x hx => by
  rw [setCell_farN hne, setCell_farN hne]
  exact h i x hx
def OpssAt (w : World) (G : Nat) (oss : List (List O2)) : Prop := ∀ i xs, oss[i]? = some xs → ∃ b, w.cell? ⟨G, i, none⟩ = some (.slice (some ⟨b, 0, none⟩) xs.length xs.length) ∧ G < b ∧ b < w.heap.size ∧ OpsAt w b 0 xs
theorem OpssAt.of {w w1 : World} {G : Nat} {oss : List (List O2)} (h : OpssAt w G oss) (hg : G < w.heap.size) (hb : Below w.heap.size w w1) : OpssAt w1 G oss := fun i xs hx => by
  obtain ⟨b, h1, h2, h3, h4⟩ := h i xs hx
  exact ⟨b, (hb.cell (p := ⟨G, i, none⟩) hg).trans h1, h2, Nat.lt_of_lt_of_le h3 hb.size, h4.of h3 hb⟩
theorem OpssAt.far {w : World} {G : Nat} {oss : List (List O2)} (h : OpssAt w G oss) {X O : Nat} (hX : X < G) (v : Value) : OpssAt (w.setCell ⟨X, O, none⟩ v) G oss := fun i xs hx => by
  obtain ⟨b, h1, h2, h3, h4⟩ := h i xs hx
  exact ⟨b, by rw [setCell_farN (by omega)]; exact h1, h2, by simpa using h3, h4.far (by omega) v⟩
structure OwnOpss (w : World) (G n : Nat) (oss : List (List O2)) : Prop where
  size : G < w.heap.size
  frz : ∀ o, w.frozen? ⟨G, o, none⟩ = false
  all : ∀ o, o < n → ∃ v, w.cell? ⟨G, o, none⟩ = some v
  held : OpssAt w G oss
theorem OwnOpss.of {w w1 : World} {G n : Nat} {oss : List (List O2)} (h : OwnOpss w G n oss) (hb : Below w.heap.size w w1) : OwnOpss w1 G n oss :=
  ⟨Nat.lt_of_lt_of_le h.size hb.size, fun o => (hb.frozen (p := ⟨G, o, none⟩) h.size).trans (h.frz o), fun o ho => by
    obtain ⟨v, hv⟩ := h.all o ho
    exact ⟨v, (hb.cell (p := ⟨G, o, none⟩) h.size).trans hv⟩, h.held.of h.size hb⟩
theorem OwnOpss.made (w : World) (n : Nat) (C : Array Value) (t : TypeId) (hC : C.size = n) : OwnOpss (w.alloc (.cells C t)) w.heap.size n [] :=
  ⟨by simp, fun o => by simp [go_sem], fun o ho => ⟨C[o]'(by omega), by rw [World.cell?_alloc_at C t _ o rfl]; simp⟩, fun i x hx => by simp at hx⟩
theorem OwnOpss.put {w : World} {G n k : Nat} {oss : List (List O2)} (h : OwnOpss w G n (oss.take k)) (hk : k < oss.length) (hn : k < n) (b : Nat) (h1 : G < b) (h2 : b < w.heap.size) (h3 : OpsAt w b 0 oss[k]) :
    OwnOpss (w.setCell ⟨G, k, none⟩ (.slice (some ⟨b, 0, none⟩) (oss[k]).length (oss[k]).length)) G n (oss.take (k + 1)) := by
  refine ⟨by simpa using h.size, fun o => by rw [frozen_setCellN]; exact h.frz o, fun o ho => ?_, fun i x hx => ?_⟩
  · obtain ⟨v, hv⟩ := h.all o ho
    exact setCell_thereN hv
  · rw [take_snocN oss k hk] at hx
    have hl : (oss.take k).length = k := by simp; omega
    by_cases hi : i < k
    · rw [List.getElem?_append_left (by omega)] at hx
      obtain ⟨b', e1, e2, e3, e4⟩ := h.held i x hx
      exact ⟨b', by rw [setCell_otherN (by omega)]; exact e1, e2, by simpa using e3, e4.far (by omega) _⟩
    · obtain rfl : i = k := by
        have := (List.getElem?_eq_some_iff.1 hx).1
        simp at this; omega
      rw [List.getElem?_append_right (by omega)] at hx
      simp [hl] at hx
      subst hx
      obtain ⟨v0, c0⟩ := h.all i hn
      exact ⟨b, World.cell?_setCell_same _ _ _ c0, h1, by simpa using h2, h3.far (by omega) _⟩
def IsPns (w : World) (v : Value) (ps : List Pn) : Prop :=
  (ps = [] ∧ ∃ a cap, v = .slice a 0 cap) ∨ ∃ g off cap, v = .slice (some ⟨g, off, none⟩) ps.length cap ∧ g < w.heap.size ∧
    ∀ i p, ps[i]? = some p → w.cell? ⟨g, off + i * 7, none⟩ = some (.int .i64 p.K) ∧ w.cell? ⟨g, off + i * 7 + 1, none⟩ = some (.int .i64 p.T) ∧ w.cell? ⟨g, off + i * 7 + 2, none⟩ = some (.int .i64 p.M) ∧
      w.cell? ⟨g, off + i * 7 + 5, none⟩ = some (.int .i64 p.L) ∧ w.cell? ⟨g, off + i * 7 + 6, none⟩ = some (.int .i64 p.R) ∧
      (∃ u, w.cell? ⟨g, off + i * 7 + 3, none⟩ = some u ∧ IsOps w u p.Ex) ∧ ∃ u, w.cell? ⟨g, off + i * 7 + 4, none⟩ = some u ∧ IsOpss w u p.Exs
theorem IsPns.of {w w1 : World} {v : Value} {ps : List Pn} (h : IsPns w v ps) (hb : Below w.heap.size w w1) : IsPns w1 v ps := by
  rcases h with h | ⟨g, off, cap, h1, h2, h3⟩
  · exact Or.inl h
  · refine Or.inr ⟨g, off, cap, h1, Nat.lt_of_lt_of_le h2 hb.size, fun i p hp => ?_⟩
    obtain ⟨c0, c1, c2, c5, c6, ⟨u, c3, hu⟩, u', c4, hu'⟩ := h3 i p hp
    exact ⟨(hb.cell (p := ⟨g, off + i * 7, none⟩) h2).trans c0, (hb.cell (p := ⟨g, off + i * 7 + 1, none⟩) h2).trans c1, (hb.cell (p := ⟨g, off + i * 7 + 2, none⟩) h2).trans c2, (hb.cell (p := ⟨g, off + i * 7 + 5, none⟩) h2).trans c5, (hb.cell (p := ⟨g, off + i * 7 + 6, none⟩) h2).trans c6,
      ⟨u, (hb.cell (p := ⟨g, off + i * 7 + 3, none⟩) h2).trans c3, hu.of hb⟩, u', (hb.cell (p := ⟨g, off + i * 7 + 4, none⟩) h2).trans c4, hu'.of hb⟩
structure PnAt (w : World) (g o : Nat) (p : Pn) : Prop where
  c0 : w.cell? ⟨g, o, none⟩ = some (.int .i64 p.K)
  c1 : w.cell? ⟨g, o + 1, none⟩ = some (.int .i64 p.T)
  c2 : w.cell? ⟨g, o + 2, none⟩ = some (.int .i64 p.M)
  c5 : w.cell? ⟨g, o + 5, none⟩ = some (.int .i64 p.L)
  c6 : w.cell? ⟨g, o + 6, none⟩ = some (.int .i64 p.R)
  ex : ∃ b, w.cell? ⟨g, o + 3, none⟩ = some (.slice (some ⟨b, 0, none⟩) p.Ex.length p.Ex.length) ∧ g < b ∧ b < w.heap.size ∧ OpsAt w b 0 p.Ex
  exs : ∃ b, w.cell? ⟨g, o + 4, none⟩ = some (.slice (some ⟨b, 0, none⟩) p.Exs.length p.Exs.length) ∧ g < b ∧ b < w.heap.size ∧ OpssAt w b p.Exs
theorem PnAt.of {w w1 : World} {g o : Nat} {p : Pn} (h : PnAt w g o p) (hg : g < w.heap.size) (hb : Below w.heap.size w w1) : PnAt w1 g o p := by
  obtain ⟨c0, c1, c2, c5, c6, ⟨b, c3, e1, e2, e3⟩, b', c4, f1, f2, f3⟩ := h
  exact ⟨(hb.cell (p := ⟨g, o, none⟩) hg).trans c0, (hb.cell (p := ⟨g, o + 1, none⟩) hg).trans c1, (hb.cell (p := ⟨g, o + 2, none⟩) hg).trans c2, (hb.cell (p := ⟨g, o + 5, none⟩) hg).trans c5, (hb.cell (p := ⟨g, o + 6, none⟩) hg).trans c6,
    ⟨b, (hb.cell (p := ⟨g, o + 3, none⟩) hg).trans c3, e1, Nat.lt_of_lt_of_le e2 hb.size, e3.of e2 hb⟩, b', (hb.cell (p := ⟨g, o + 4, none⟩) hg).trans c4, f1, Nat.lt_of_lt_of_le f2 hb.size, f3.of f2 hb⟩
theorem PnAt.far {w : World} {g o : Nat} {p : Pn} (h : PnAt w g o p) {X O : Nat} (hX : X < g ∨ (X = g ∧ (O < o ∨ o + 6 < O))) (v : Value) : PnAt (w.setCell ⟨X, O, none⟩ v) g o p := by
  have hk : ∀ k, k ≤ 6 → (w.setCell ⟨X, O, none⟩ v).cell? ⟨g, o + k, none⟩ = w.cell? ⟨g, o + k, none⟩ := fun k hk => by
    rcases hX with h | ⟨rfl, h⟩
    · rw [setCell_farN (by omega)]
    · rw [setCell_otherN (by omega)]
  have h0 := hk 0 (by omega)
  rw [Nat.add_zero] at h0
  obtain ⟨c0, c1, c2, c5, c6, ⟨b, c3, e1, e2, e3⟩, b', c4, f1, f2, f3⟩ := h
  exact ⟨h0.trans c0, (hk 1 (by omega)).trans c1, (hk 2 (by omega)).trans c2, (hk 5 (by omega)).trans c5, (hk 6 (by omega)).trans c6, ⟨b, (hk 3 (by omega)).trans c3, e1, by simpa using e2, e3.far (by omega) v⟩, b', (hk 4 (by omega)).trans c4, f1, by simpa using f2, f3.far (by omega) v⟩
def PnsAt (w : World) (g off : Nat) (ps : List Pn) : Prop := ∀ i p, ps[i]? = some p → PnAt w g (off + i * 7) p
theorem PnsAt.of {w w1 : World} {g off : Nat} {ps : List Pn} (h : PnsAt w g off ps) (hg : g < w.heap.size) (hb : Below w.heap.size w w1) : PnsAt w1 g off ps := fun i p hp => (h i p hp).of hg hb
theorem PnsAt.far {w : World} {g off : Nat} {ps : List Pn} (h : PnsAt w g off ps) {X O : Nat} (hX : X < g) (v : Value) : PnsAt (w.setCell ⟨X, O, none⟩ v) g off ps := fun i p hp => (h i p hp).far (Or.inl hX) v
theorem PnsAt.at {w : World} {g off : Nat} {ps : List Pn} (h : PnsAt w g off ps) (i : Nat) (hi : i < ps.length) : PnAt w g (off + i * 7) ps[i] := h i ps[i] (by simp [hi])
structure OwnPns (w : World) (g n : Nat) (ps : List Pn) : Prop where
  size : g < w.heap.size
  frz : ∀ o, w.frozen? ⟨g, o, none⟩ = false
  all : ∀ o, o < n * 7 → ∃ v, w.cell? ⟨g, o, none⟩ = some v
  held : PnsAt w g 0 ps
theorem OwnPns.of {w w1 : World} {g n : Nat} {ps : List Pn} (h : OwnPns w g n ps) (hb : Below w.heap.size w w1) : OwnPns w1 g n ps :=
  ⟨Nat.lt_of_lt_of_le h.size hb.size, fun o => (hb.frozen (p := ⟨g, o, none⟩) h.size).trans (h.frz o), fun o ho => by
    obtain ⟨v, hv⟩ := h.all o ho
    exact ⟨v, (hb.cell (p := ⟨g, o, none⟩) h.size).trans hv⟩, h.held.of h.size hb⟩
theorem OwnPns.made (w : World) (n : Nat) (C : Array Value) (t : TypeId) (hC : C.size = n * 7) : OwnPns (w.alloc (.cells C t)) w.heap.size n [] :=
  ⟨by simp, fun o => by simp [go_sem], fun o ho => ⟨C[o]'(by omega), by rw [World.cell?_alloc_at C t _ o rfl]; simp⟩, fun i x hx => by simp at hx⟩
def putPn (w : World) (g o : Nat) (p : Pn) (b b' : Nat) : World :=
  ((((((w.setCell ⟨g, o, none⟩ (.int .i64 p.K)).setCell ⟨g, o + 1, none⟩ (.int .i64 p.T)).setCell ⟨g, o + 2, none⟩ (.int .i64 p.M)).setCell ⟨g, o + 3, none⟩ (.slice (some ⟨b, 0, none⟩) p.Ex.length p.Ex.length)).setCell ⟨g, o + 4, none⟩ (.slice (some ⟨b', 0, none⟩) p.Exs.length p.Exs.length)).setCell ⟨g, o + 5, none⟩ (.int .i64 p.L)).setCell ⟨g, o + 6, none⟩ (.int .i64 p.R)
theorem OwnPns.put {w : World} {g n k : Nat} {ps : List Pn} (h : OwnPns w g n (ps.take k)) (hk : k < ps.length) (hn : k < n) (b b' : Nat) (h1 : g < b) (h2 : b < w.heap.size) (h3 : OpsAt w b 0 (ps[k]).Ex) (f1 : g < b') (f2 : b' < w.heap.size) (f3 : OpssAt w b' (ps[k]).Exs) :
    OwnPns (putPn w g (k * 7) ps[k] b b') g n (ps.take (k + 1)) := by
  have hsz : (putPn w g (k * 7) ps[k] b b').heap.size = w.heap.size := by simp [putPn]
  have hi7 : ∀ o, o < 7 → ∃ v, w.cell? ⟨g, k * 7 + o, none⟩ = some v := fun o ho => h.all _ (by omega)
  refine ⟨by rw [hsz]; exact h.size, fun o => by unfold putPn; simp only [frozen_setCellN]; exact h.frz o, fun o ho => ?_, fun i x hx => ?_⟩
  · obtain ⟨v, hv⟩ := h.all o ho
    unfold putPn
    obtain ⟨v, hv⟩ := setCell_thereN (o' := k * 7) (v := .int .i64 (ps[k]).K) hv
    obtain ⟨v, hv⟩ := setCell_thereN (o' := k * 7 + 1) (v := .int .i64 (ps[k]).T) hv
    obtain ⟨v, hv⟩ := setCell_thereN (o' := k * 7 + 2) (v := .int .i64 (ps[k]).M) hv
    obtain ⟨v, hv⟩ := setCell_thereN (o' := k * 7 + 3) (v := .slice (some ⟨b, 0, none⟩) (ps[k]).Ex.length (ps[k]).Ex.length) hv
    obtain ⟨v, hv⟩ := setCell_thereN (o' := k * 7 + 4) (v := .slice (some ⟨b', 0, none⟩) (ps[k]).Exs.length (ps[k]).Exs.length) hv
    obtain ⟨v, hv⟩ := setCell_thereN (o' := k * 7 + 5) (v := .int .i64 (ps[k]).L) hv
    exact setCell_thereN hv
  · rw [take_snocN ps k hk] at hx
    have hl : (ps.take k).length = k := by simp; omega
    by_cases hi : i < k
    · rw [List.getElem?_append_left (by omega)] at hx
      have := h.held i x hx
      unfold putPn
      exact ((((((this.far (Or.inr ⟨rfl, by omega⟩) _).far (Or.inr ⟨rfl, by omega⟩) _).far (Or.inr ⟨rfl, by omega⟩) _).far (Or.inr ⟨rfl, by omega⟩) _).far (Or.inr ⟨rfl, by omega⟩) _).far (Or.inr ⟨rfl, by omega⟩) _).far (Or.inr ⟨rfl, by omega⟩) _
    · obtain rfl : i = k := by
        have := (List.getElem?_eq_some_iff.1 hx).1
        simp at this; omega
      rw [List.getElem?_append_right (by omega)] at hx
      simp [hl] at hx
      subst hx
      simp only [Nat.zero_add]
      obtain ⟨v0, c0⟩ := hi7 0 (by omega)
      obtain ⟨v1, c1⟩ := hi7 1 (by omega)
      obtain ⟨v2, c2⟩ := hi7 2 (by omega)
      obtain ⟨v3, c3⟩ := hi7 3 (by omega)
      obtain ⟨v4, c4⟩ := hi7 4 (by omega)
      obtain ⟨v5, c5⟩ := hi7 5 (by omega)
      obtain ⟨v6, c6⟩ := hi7 6 (by omega)
      refine ⟨by unfold putPn; rw [setCell_otherN (by omega), setCell_otherN (by omega), setCell_otherN (by omega), setCell_otherN (by omega), setCell_otherN (by omega), setCell_otherN (by omega)]; exact World.cell?_setCell_same _ _ _ c0, by unfold putPn; rw [setCell_otherN (by omega), setCell_otherN (by omega), setCell_otherN (by omega), setCell_otherN (by omega), setCell_otherN (by omega)]; exact World.cell?_setCell_same _ _ _ (by rw [setCell_otherN (by omega)]; exact c1), by unfold putPn; rw [setCell_otherN (by omega), setCell_otherN (by omega), setCell_otherN (by omega), setCell_otherN (by omega)]; exact World.cell?_setCell_same _ _ _ (by rw [setCell_otherN (by omega), setCell_otherN (by omega)]; exact c2), by unfold putPn; rw [setCell_otherN (by omega)]; exact World.cell?_setCell_same _ _ _ (by rw [setCell_otherN (by omega), setCell_otherN (by omega), setCell_otherN (by omega), setCell_otherN (by omega), setCell_otherN (by omega)]; exact c5), by unfold putPn; exact World.cell?_setCell_same _ _ _ (by rw [setCell_otherN (by omega), setCell_otherN (by omega), setCell_otherN (by omega), setCell_otherN (by omega), setCell_otherN (by omega), setCell_otherN (by omega)]; exact c6), ⟨b, by unfold putPn; rw [setCell_otherN (by omega), setCell_otherN (by omega), setCell_otherN (by omega)]; exact World.cell?_setCell_same _ _ _ (by rw [setCell_otherN (by omega), setCell_otherN (by omega), setCell_otherN (by omega)]; exact c3), h1, by rw [hsz]; exact h2, ?_⟩, b', by unfold putPn; rw [setCell_otherN (by omega), setCell_otherN (by omega)]; exact World.cell?_setCell_same _ _ _ (by rw [setCell_otherN (by omega), setCell_otherN (by omega), setCell_otherN (by omega), setCell_otherN (by omega)]; exact c4), f1, by rw [hsz]; exact f2, ?_⟩
      · unfold putPn
        exact ((((((h3.far (by omega) _).far (by omega) _).far (by omega) _).far (by omega) _).far (by omega) _).far (by omega) _).far (by omega) _
      · unfold putPn
        exact ((((((f3.far (by omega) _).far (by omega) _).far (by omega) _).far (by omega) _).far (by omega) _).far (by omega) _).far (by omega) _
end Go.Proofs.YtbbjhepagkkjeaaGreatDoor
namespace Go.Proofs.YtbbjhepagkkjeaaGreatDoor
open Go Go.RowKit
open Classical in
noncomputable def frm (ns : List Nd) (i : Nat) : Int := if h : ∃ f, Seg ns f i (kidsAt ns i) then ((Classical.choose h : Nat) : Int) else -1
theorem frm_some {ns : List Nd} {f i : Nat} (h : Seg ns f i (kidsAt ns i)) : frm ns i = (f : Int) := by
  unfold frm
  rw [dif_pos ⟨f, h⟩]
  have := h.uniqL _ (Classical.choose_spec (⟨f, h⟩ : ∃ f, Seg ns f i (kidsAt ns i)))
  rw [this]
theorem frm_none {ns : List Nd} {i : Nat} (h : ∀ f, ¬ Seg ns f i (kidsAt ns i)) : frm ns i = -1 := by
  unfold frm
  rw [dif_neg (fun ⟨f, hf⟩ => h f hf)]
theorem frm_cases (ns : List Nd) (i : Nat) : (frm ns i = -1 ∧ ∀ f, ¬ Seg ns f i (kidsAt ns i)) ∨ ∃ f : Nat, frm ns i = (f : Int) ∧ Seg ns f i (kidsAt ns i) := by
  by_cases h : ∃ f, Seg ns f i (kidsAt ns i)
  · obtain ⟨f, hf⟩ := h
    exact Or.inr ⟨f, frm_some hf, hf⟩
  · have h' : ∀ f, ¬ Seg ns f i (kidsAt ns i) := fun f hf => h ⟨f, hf⟩
    exact Or.inl ⟨frm_none h', h'⟩
end Go.Proofs.YtbbjhepagkkjeaaGreatDoor
namespace Go.Proofs.YtbbjhepagkkjeaaGreatDoor
open Go Go.RowKit
def arity (k : Int) : Int := if k = 1 ∨ k = 2 then 0 else if k = 3 ∨ k = 4 ∨ k = 9 then 1 else if 1 ≤ k ∧ k ≤ 10 then 2 else -1
theorem arity_cases (k : Int) : arity k = -1 ∨ arity k = 0 ∨ arity k = 1 ∨ arity k = 2 := by
  unfold arity
  repeat (split; · simp)
  simp
def kidsP (p : Pn) : List Int :=
  if arity p.K = 0 then (if p.L = 0 ∧ p.R = 0 then [] else [-1])
  else if arity p.K = 1 then (if p.R = 0 then [p.L] else [-1])
  else if arity p.K = 2 then [p.L, p.R]
  else [-1]
def nds (ps : List Pn) : List Nd := ps.map fun p => ⟨p.K, 0, 0, ByteArray.empty, ByteArray.empty, kidsP p⟩
theorem kidsAt_nds {ps : List Pn} {i : Nat} (hi : i < ps.length) : kidsAt (nds ps) i = kidsP ps[i] := by simp [kidsAt, nds, hi]
theorem Seg.noNeg {ns : List Nd} {a b : Nat} (h : Seg ns a b [-1]) : False := by
  obtain ⟨p, _, h1, _⟩ := h.kid (-1) (by simp)
  omega
theorem frm_neg {ns : List Nd} {i : Nat} (h : kidsAt ns i = [-1]) : frm ns i = -1 := frm_none (fun f hf => by rw [h] at hf; exact hf.noNeg)
theorem frm_one {ns : List Nd} {i : Nat} {l : Int} (h : kidsAt ns (i + 1) = [l]) : frm ns (i + 1) = if l = (i : Int) then frm ns i else -1 := by
  by_cases hl : l = (i : Int)
  · rw [if_pos hl]
    subst hl
    rcases frm_cases ns i with ⟨h1, h2⟩ | ⟨f, h1, h2⟩
    · rw [h1]
      refine frm_none (fun f hf => ?_)
      rw [h] at hf
      obtain ⟨p, c, e1, _, _, h4⟩ := Seg.inv (ks := []) (x := (i : Int)) (by simpa using hf)
      obtain rfl : p = i := by omega
      exact h2 c h4
    · rw [h1]
      exact frm_some (by rw [h]; exact h2.one)
  · rw [if_neg hl]
    refine frm_none (fun f hf => ?_)
    rw [h] at hf
    obtain ⟨p, c, e1, e2, _, _⟩ := Seg.inv (ks := []) (x := l) (by simpa using hf)
    exact hl (by omega)
theorem frm_one0 {ns : List Nd} {l : Int} (h : kidsAt ns 0 = [l]) : frm ns 0 = -1 := frm_none (fun f hf => by
  rw [h] at hf
  obtain ⟨p, c, e1, _⟩ := Seg.inv (ks := []) (x := l) (by simpa using hf)
  omega)
theorem frm_two0 {ns : List Nd} {l r : Int} (h : kidsAt ns 0 = [l, r]) : frm ns 0 = -1 := frm_none (fun f hf => by
  rw [h] at hf
  obtain ⟨p, c, e1, _⟩ := Seg.inv (ks := [l]) (x := r) (by simpa using hf)
  omega)
theorem frm_two {ns : List Nd} {i : Nat} {l r : Int} (h : kidsAt ns (i + 1) = [l, r]) :
    frm ns (i + 1) = if r ≠ (i : Int) then -1 else if frm ns i < 1 then -1 else if l ≠ frm ns i - 1 then -1 else frm ns (frm ns i - 1).toNat := by
  by_cases hr : r = (i : Int)
  rotate_left
  · rw [if_pos hr]
    refine frm_none (fun f hf => ?_)
    rw [h] at hf
    obtain ⟨p, c, e1, e2, _, _⟩ := Seg.inv (ks := [l]) (x := r) (by simpa using hf)
    exact hr (by omega)
  rw [if_neg (by simpa using hr)]
  subst hr
  have key : ∀ f, Seg ns f (i + 1) [l, (i : Int)] → ∃ c q : Nat, frm ns i = (c : Int) ∧ c = q + 1 ∧ l = (q : Int) ∧ Seg ns f q (kidsAt ns q) := fun f hf => by
    obtain ⟨p, c, e1, _, h3, h4⟩ := Seg.inv (ks := [l]) (x := (i : Int)) (by simpa using hf)
    obtain rfl : p = i := by omega
    obtain ⟨q, c', e3, e4, h5, h6⟩ := Seg.inv (ks := []) (x := l) (by simpa using h3)
    obtain rfl := h5.nil_inv
    exact ⟨c, q, frm_some h4, e3, e4, h6⟩
  rcases frm_cases ns i with ⟨h1, h2⟩ | ⟨c, h1, h2⟩
  · rw [h1, if_pos (by omega)]
    exact frm_none (fun f hf => by rw [h] at hf; obtain ⟨c, q, e, _⟩ := key f hf; omega)
  · rw [h1]
    by_cases hc : c = 0
    · rw [if_pos (by omega)]
      exact frm_none (fun f hf => by rw [h] at hf; obtain ⟨c', q, e, e2, _⟩ := key f hf; omega)
    · obtain ⟨q, rfl⟩ : ∃ q, c = q + 1 := ⟨c - 1, by omega⟩
      rw [if_neg (by omega)]
      by_cases hl : l = (q : Int)
      rotate_left
      · rw [if_pos (by omega)]
        exact frm_none (fun f hf => by rw [h] at hf; obtain ⟨c', q', e, e2, e3, _⟩ := key f hf; omega)
      · rw [if_neg (by omega), show (((q + 1 : Nat) : Int) - 1).toNat = q by omega]
        subst hl
        rcases frm_cases ns q with ⟨g1, g2⟩ | ⟨f, g1, g2⟩
        · rw [g1]
          exact frm_none (fun f hf => by
            rw [h] at hf
            obtain ⟨c', q', e, e2, e3, h6⟩ := key f hf
            obtain rfl : q' = q := by omega
            exact g2 f h6)
        · rw [g1]
          refine frm_some ?_
          rw [h]
          have := g2.one.join h2.one
          simpa using this
theorem frm_le (ns : List Nd) (i : Nat) : -1 ≤ frm ns i ∧ frm ns i ≤ (i : Int) := by
  rcases frm_cases ns i with ⟨h1, _⟩ | ⟨f, h1, h2⟩
  · omega
  · have := h2.le; omega
end Go.Proofs.YtbbjhepagkkjeaaGreatDoor
namespace Go.Proofs.YtbbjhepagkkjeaaGreatDoor
open Go Go.RowKit
def insideW (k env left : Int) : Int := if k = 6 ∨ k = 7 ∨ k = 8 then env + left else env
def usedP (nt : Nat) (K T M : Int) (le ls : Nat) : Prop :=
  (K ≠ 2 → T = 0) ∧ (K = 2 → 0 ≤ T ∧ T < (nt : Int)) ∧ (K ≠ 8 → M = 0) ∧ (K = 8 → 1 ≤ M ∧ M ≤ 4) ∧ (K = 3 ∨ K = 7 ∨ (K = 8 ∧ M ≠ 1) ∨ le = 0) ∧ (K = 4 ∨ ls = 0)
end Go.Proofs.YtbbjhepagkkjeaaGreatDoor
namespace Go.Proofs.YtbbjhepagkkjeaaGreatDoor
open Go Go.RowKit
def fidx (ts : List Tb) (l : List UInt8) : Int := ((ts.findIdx? (fun t => t.Name.toList == l)).map (fun k : Nat => (k : Int))).getD (-1)
theorem fidx_at {ts : List Tb} {l : List UInt8} {k : Nat} (hk : k < ts.length) (h : ∀ (j : Nat) (hj : j < ts.length), j < k → (ts[j]).Name.toList ≠ l) (he : (ts[k]).Name.toList = l) : fidx ts l = (k : Int) := by
  unfold fidx
  rw [List.findIdx?_eq_some_iff_getElem.2 ⟨hk, by simp [he], fun j hj => by simp [h j (by omega) hj]⟩]
  rfl
theorem fidx_none {ts : List Tb} {l : List UInt8} (h : ∀ (j : Nat) (hj : j < ts.length), (ts[j]).Name.toList ≠ l) : fidx ts l = -1 := by
  unfold fidx
  rw [List.findIdx?_eq_none_iff.2 (fun t ht => by
    obtain ⟨j, hj, rfl⟩ := List.mem_iff_getElem.1 ht
    simp [h j hj])]
  rfl
theorem fidx_range (ts : List Tb) (l : List UInt8) : -1 ≤ fidx ts l ∧ fidx ts l < ts.length + 1 := by
  unfold fidx
  cases h : ts.findIdx? (fun t => t.Name.toList == l) with
  | none => simp; omega
  | some k =>
    have := (List.findIdx?_eq_some_iff_getElem.1 h).1
    simp; omega
def sumR : List Tb → Nat
  | [] => 0
  | t :: r => t.Rows.length + sumR r
theorem sumR_append (a b : List Tb) : sumR (a ++ b) = sumR a + sumR b := by
  induction a with
  | nil => simp [sumR]
  | cons x a ih => simp only [List.cons_append, sumR, ih]; omega
theorem sumR_take (ts : List Tb) (k : Nat) (hk : k < ts.length) : sumR (ts.take (k + 1)) = sumR (ts.take k) + (ts[k]).Rows.length := by
  rw [take_snoc ts k hk, sumR_append]; simp [sumR]
theorem sumR_bulk : ∀ (ts : List Tb), sumR ts ≤ bulkT ts
  | [] => by simp [sumR]
  | t :: r => by have := sumR_bulk r; simp only [sumR, bulkT]; omega
theorem sumR_take_le (ts : List Tb) (k : Nat) : sumR (ts.take k) ≤ bulkT ts := Nat.le_trans (sumR_bulk _) (bulkT_take_le ts k)
def TbV (ts : List Tb) (i : Nat) (t : Tb) : Prop := NameB t.Name ∧ 1 ≤ t.Cols ∧ t.Cols ≤ 16 ∧ fidx ts t.Name.toList = (i : Int) ∧ ∀ xs ∈ t.Rows, (xs.length : Int) = t.Cols
structure DbV (ts : List Tb) : Prop where
  few : ts.length ≤ 50
  each : ∀ (i : Nat) (hi : i < ts.length), TbV ts i ts[i]
  rows : sumR ts ≤ 1000
def SmallT (ts : List Tb) : Prop := bulkT ts ≤ 1048576
end Go.Proofs.YtbbjhepagkkjeaaGreatDoor
