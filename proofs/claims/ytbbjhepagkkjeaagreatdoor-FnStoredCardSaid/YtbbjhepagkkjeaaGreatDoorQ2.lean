import Derived.Test.YtbbjhepagkkjeaaGreatDoorQ1
import Derived.OwnWalk
import Derived.Laws.CopyRow
import Derived.Deep.WholeRow
import Derived.Deep.AppendLies
import Derived.Deep.RegionHeld3
import Derived.Deep.DeepCutAuto
namespace Go.Proofs.YtbbjhepagkkjeaaGreatDoor
open Go Go.RowKit
def OpsAt (w : World) (g off : Nat) (xs : List O2) : Prop := ∀ i x, xs[i]? = some x → w.cell? ⟨g, off + i * 2, none⟩ = some (.int .i64 x.1) ∧ w.cell? ⟨g, off + i * 2 + 1, none⟩ = some (.int .i64 x.2)
def IsOps (w : World) (v : Value) (xs : List O2) : Prop :=
  (xs = [] ∧ ∃ a cap, v = .slice a 0 cap) ∨ ∃ g off cap, v = .slice (some ⟨g, off, none⟩) xs.length cap ∧ xs.length ≤ cap ∧ g < w.heap.size ∧ OpsAt w g off xs
theorem OpsAt.of {w w1 : World} {g off : Nat} {xs : List O2} (h : OpsAt w g off xs) (hg : g < w.heap.size) (hb : Below w.heap.size w w1) : OpsAt w1 g off xs := fun i x hx =>
  ⟨(hb.cell (p := ⟨g, off + i * 2, none⟩) hg).trans (h i x hx).1, (hb.cell (p := ⟨g, off + i * 2 + 1, none⟩) hg).trans (h i x hx).2⟩
theorem IsOps.of {w w1 : World} {v : Value} {xs : List O2} (h : IsOps w v xs) (hb : Below w.heap.size w w1) : IsOps w1 v xs := by
  rcases h with h | ⟨g, off, cap, h1, h2, h3, h4⟩
  · exact Or.inl h
  · exact Or.inr ⟨g, off, cap, h1, h2, Nat.lt_of_lt_of_le h3 hb.size, h4.of h3 hb⟩
theorem OpsAt.tail {w : World} {g off : Nat} {x : O2} {xs : List O2} (h : OpsAt w g off (x :: xs)) : OpsAt w g (off + 2) xs := fun i y hy => by
  have := h (i + 1) y (by simpa using hy)
  rw [show off + 2 + i * 2 = off + (i + 1) * 2 from by omega]
  exact this
theorem OpsAt.at {w : World} {g off : Nat} {xs : List O2} (h : OpsAt w g off xs) (i : Nat) (hi : i < xs.length) : w.cell? ⟨g, off + i * 2, none⟩ = some (.int .i64 xs[i].1) ∧ w.cell? ⟨g, off + i * 2 + 1, none⟩ = some (.int .i64 xs[i].2) :=
  h i xs[i] (by simp [hi])
structure OwnOps (w : World) (g n : Nat) (xs : List O2) : Prop where
  size : g < w.heap.size
  frz : ∀ o, w.frozen? ⟨g, o, none⟩ = false
  all : ∀ o, o < n * 2 → ∃ v, w.cell? ⟨g, o, none⟩ = some v
  held : OpsAt w g 0 xs
theorem OwnOps.of {w w1 : World} {g n : Nat} {xs : List O2} (h : OwnOps w g n xs) (hb : Below w.heap.size w w1) : OwnOps w1 g n xs :=
  ⟨Nat.lt_of_lt_of_le h.size hb.size, fun o => (hb.frozen (p := ⟨g, o, none⟩) h.size).trans (h.frz o), fun o ho => by
    obtain ⟨v, hv⟩ := h.all o ho
    exact ⟨v, (hb.cell (p := ⟨g, o, none⟩) h.size).trans hv⟩, h.held.of h.size hb⟩
theorem frozen_setCellO (w : World) (p a : Addr) (v : Value) : (w.setCell p v).frozen? a = w.frozen? a := by simp [go_sem]
theorem setCell_thereO {w : World} {g o o' : Nat} {v u : Value} (h : w.cell? ⟨g, o, none⟩ = some u) : ∃ z, (w.setCell ⟨g, o', none⟩ v).cell? ⟨g, o, none⟩ = some z := by
  by_cases e : o' = o
  · subst e; exact ⟨v, World.cell?_setCell_same _ _ _ h⟩
  · exact ⟨u, by rw [World.cell?_setCell_other _ _ _ _ (by intro he; injection he; contradiction)]; exact h⟩
theorem setCell_otherO {w : World} {g o o' : Nat} {v : Value} (h : o' ≠ o) : (w.setCell ⟨g, o', none⟩ v).cell? ⟨g, o, none⟩ = w.cell? ⟨g, o, none⟩ :=
  World.cell?_setCell_other _ _ _ _ (by intro he; injection he; contradiction)
theorem OwnOps.push {w : World} {g n : Nat} {xs : List O2} (h : OwnOps w g n xs) (hn : xs.length < n) (b : Int) (k : Int) :
    OwnOps ((w.setCell ⟨g, xs.length * 2, none⟩ (.int .i64 b)).setCell ⟨g, xs.length * 2 + 1, none⟩ (.int .i64 k)) g n (xs ++ [(b, k)]) := by
  refine ⟨by simpa using h.size, fun o => by rw [frozen_setCellO, frozen_setCellO]; exact h.frz o, fun o ho => ?_, fun i x hx => ?_⟩
  · obtain ⟨v, hv⟩ := h.all o ho
    obtain ⟨z, hz⟩ := setCell_thereO (o' := xs.length * 2) (v := .int .i64 b) hv
    exact setCell_thereO hz
  · simp only [Nat.zero_add]
    by_cases hi : i < xs.length
    · rw [List.getElem?_append_left hi] at hx
      have := h.held i x hx
      simp only [Nat.zero_add] at this
      refine ⟨?_, ?_⟩
      · rw [setCell_otherO (by omega), setCell_otherO (by omega)]; exact this.1
      · rw [setCell_otherO (by omega), setCell_otherO (by omega)]; exact this.2
    · obtain rfl : i = xs.length := by
        have := (List.getElem?_eq_some_iff.1 hx).1
        simp at this; omega
      simp at hx
      subst hx
      obtain ⟨v0, h0⟩ := h.all (xs.length * 2) (by omega)
      obtain ⟨v1, h1⟩ := h.all (xs.length * 2 + 1) (by omega)
      obtain ⟨z, hz⟩ := setCell_thereO (o' := xs.length * 2) (v := .int .i64 b) h1
      refine ⟨?_, World.cell?_setCell_same _ _ _ hz⟩
      rw [setCell_otherO (by omega)]
      exact World.cell?_setCell_same _ _ _ h0
theorem OwnOps.made (w : World) (n : Nat) (C : Array Value) (t : TypeId) (hC : C.size = n * 2) : OwnOps (w.alloc (.cells C t)) w.heap.size n [] :=
  ⟨by simp, fun o => by simp [go_sem], fun o ho => ⟨C[o]'(by omega), by rw [World.cell?_alloc_at C t _ o rfl]; simp⟩, fun i x hx => by simp at hx⟩
theorem take_snocO {α : Type} (xs : List α) (k : Nat) (h : k < xs.length) : xs.take (k + 1) = xs.take k ++ [xs[k]] := by
  rw [List.take_succ_eq_append_getElem h]
theorem OwnOps.next {w : World} {g n k : Nat} {xs : List O2} (h : OwnOps w g n (xs.take k)) (hk : k < xs.length) (hn : k < n) :
    OwnOps ((w.setCell ⟨g, k * 2, none⟩ (.int .i64 xs[k].1)).setCell ⟨g, k * 2 + 1, none⟩ (.int .i64 xs[k].2)) g n (xs.take (k + 1)) := by
  have hl : (xs.take k).length = k := by simp; omega
  have := h.push (by omega) xs[k].1 xs[k].2
  rw [hl] at this
  rw [take_snocO xs k hk]
  exact this
end Go.Proofs.YtbbjhepagkkjeaaGreatDoor
namespace Go.Proofs.YtbbjhepagkkjeaaGreatDoor
open Go Go.RowKit
end Go.Proofs.YtbbjhepagkkjeaaGreatDoor
namespace Go.Proofs.YtbbjhepagkkjeaaGreatDoor
open Go Go.RowKit
end Go.Proofs.YtbbjhepagkkjeaaGreatDoor
namespace Go.Proofs.YtbbjhepagkkjeaaGreatDoor
open Go Go.RowKit
abbrev TTakes (w : World) : Prop := TabAt w 5 [.int .i64 0, .int .i64 0, .int .i64 0, .int .i64 0, .int .i64 2, .int .i64 2, .int .i64 2, .int .i64 1, .int .i64 1]
end Go.Proofs.YtbbjhepagkkjeaaGreatDoor
namespace Go.Proofs.YtbbjhepagkkjeaaGreatDoor
def stepS (row : List V2) (o : O2) (bs : List V2) : List V2 :=
  bs.take (bs.length - (tk o.1 o.2 row.length).toNat) ++ [opv o.1 o.2 (bs.getD (bs.length - (tk o.1 o.2 row.length).toNat) (false, 0)) (bs.getD (bs.length - (tk o.1 o.2 row.length).toNat + 1) (false, 0)) row]
def runS (row : List V2) : List O2 → List V2 → List V2
  | [], bs => bs
  | o :: r, bs => runS row r (stepS row o bs)
def stk (row : List V2) (ops : List O2) (k : Nat) : List V2 := runS row (ops.take k) []
def flatV (xs : List V2) : List Value := xs.flatMap fun x => [.bool x.1, .int .i64 x.2]
theorem flatV_length : ∀ (xs : List V2), (flatV xs).length = xs.length * 2
  | [] => rfl
  | x :: xs => by
    have := flatV_length xs
    simp only [flatV, List.flatMap_cons, List.length_append, List.length_cons, List.length_nil] at this ⊢
    omega
theorem flatV_append (a b : List V2) : flatV (a ++ b) = flatV a ++ flatV b := by simp [flatV]
theorem flatV_take : ∀ (xs : List V2) (k : Nat), flatV (xs.take k) = (flatV xs).take (k * 2)
  | [], k => by simp [flatV]
  | x :: xs, 0 => by simp [flatV]
  | x :: xs, k + 1 => by
    have := flatV_take xs k
    simp only [flatV, List.take_succ_cons, List.flatMap_cons] at this ⊢
    rw [this, show (k + 1) * 2 = k * 2 + 2 from by omega]
    rfl
theorem flatV_at : ∀ (xs : List V2) (i : Nat) (x : V2), xs[i]? = some x → (flatV xs)[i * 2]? = some (.bool x.1) ∧ (flatV xs)[i * 2 + 1]? = some (.int .i64 x.2)
  | [], i, x, h => by simp at h
  | y :: xs, 0, x, h => by
    simp at h
    subst h
    exact ⟨rfl, rfl⟩
  | y :: xs, i + 1, x, h => by
    have := flatV_at xs i x (by simpa using h)
    simp only [flatV, List.flatMap_cons] at this ⊢
    rw [show (i + 1) * 2 = i * 2 + 2 from by omega, show i * 2 + 2 + 1 = i * 2 + 1 + 2 from by omega]
    exact this
end Go.Proofs.YtbbjhepagkkjeaaGreatDoor
namespace Go.Proofs.YtbbjhepagkkjeaaGreatDoor
open Go Go.RowKit
end Go.Proofs.YtbbjhepagkkjeaaGreatDoor
namespace Go.Proofs.YtbbjhepagkkjeaaGreatDoor
open Go Go.RowKit
def OwnS (w : World) (B g cap : Nat) (bs : List V2) : Prop := w.ownsRow B 54 2 (.slice (some ⟨g, 0, none⟩) bs.length cap) bs.length (flatV bs)
theorem OwnS.lt {w : World} {B g cap : Nat} {bs : List V2} (h : OwnS w B g cap bs) : g < w.heap.size ∧ B ≤ g ∧ bs.length ≤ cap ∧ cap ≤ maxLen := by
  rcases h.2 with ⟨h1, _⟩ | ⟨g', cap', cur, h1, h2, h3, h4, h5, _⟩
  · simp at h1
  · simp only [Value.slice.injEq, Option.some.injEq, Addr.mk.injEq, and_true, true_and] at h1
    obtain ⟨rfl, rfl⟩ := h1
    exact ⟨(Array.getElem?_eq_some_iff.1 h3).1, h2, h4, h5⟩
theorem OwnS.of {w w1 : World} {B g cap : Nat} {bs : List V2} (h : OwnS w B g cap bs) (hb : Below w.heap.size w w1) : OwnS w1 B g cap bs := by
  have hl := h.lt.1
  refine ⟨h.1, ?_⟩
  rcases h.2 with h1 | ⟨g', cap', cur, h1, h2, h3, h4⟩
  · exact Or.inl h1
  · have e : g' = g := by
      simp only [Value.slice.injEq, Option.some.injEq, Addr.mk.injEq, and_true, true_and] at h1
      exact h1.1.symm
    exact Or.inr ⟨g', cap', cur, h1, h2, by rw [hb.block g' (by rw [e]; exact hl)]; exact h3, h4⟩
theorem OwnS.cut {w : World} {B g cap : Nat} {bs : List V2} (h : OwnS w B g cap bs) (r : Nat) (hr : r ≤ bs.length) : w.ownsRow B 54 2 (.slice (some ⟨g, 0, none⟩) r cap) r (flatV (bs.take r)) := by
  refine ⟨by rw [flatV_length]; simp; omega, ?_⟩
  rcases h.2 with ⟨h1, _⟩ | ⟨g', cap', cur, h1, h2, h3, h4, h5, h6, h7⟩
  · simp at h1
  · simp only [Value.slice.injEq, Option.some.injEq, Addr.mk.injEq, and_true, true_and] at h1
    obtain ⟨rfl, rfl⟩ := h1
    refine Or.inr ⟨g, cap, cur, rfl, h2, h3, by omega, h5, h6, ?_⟩
    rw [flatV_take, ← h7, List.take_take, Nat.min_eq_left (by omega)]
theorem OwnS.row {w : World} {B g cap : Nat} {bs : List V2} (h : OwnS w B g cap bs) : RowAt w g 0 bs := by
  rcases h.2 with ⟨h1, _⟩ | ⟨g', cap', cur, h1, h2, h3, h4, h5, h6, h7⟩
  · simp at h1
  · simp only [Value.slice.injEq, Option.some.injEq, Addr.mk.injEq, and_true, true_and] at h1
    obtain ⟨rfl, rfl⟩ := h1
    intro i x hx
    have hi := (List.getElem?_eq_some_iff.1 hx).1
    obtain ⟨e0, e1⟩ := flatV_at bs i x hx
    rw [← h7] at e0 e1
    rw [List.getElem?_take, if_pos (by omega)] at e0 e1
    simp only [Nat.zero_add, World.cell?, h3]
    exact ⟨by simpa using e0, by simpa using e1⟩
abbrev A6 (Z : Nat) (K N : Int) (a b : V2) (w : World) : Prop := Z + 1 < w.heap.size ∧ w.cell? ⟨Z, 0, none⟩ = some (.int .i64 K) ∧ w.cell? ⟨Z, 1, none⟩ = some (.int .i64 N) ∧
  w.cell? ⟨Z + 1, 0, none⟩ = some (.bool a.1) ∧ w.cell? ⟨Z + 1, 1, none⟩ = some (.int .i64 a.2) ∧ w.cell? ⟨Z + 1, 2, none⟩ = some (.bool b.1) ∧ w.cell? ⟨Z + 1, 3, none⟩ = some (.int .i64 b.2)
theorem A6.map {Z : Nat} {K N : Int} {a b : V2} {w w1 : World} (h : A6 Z K N a b w) (hs : Z + 1 < w1.heap.size) (hc : ∀ g o, g = Z ∨ g = Z + 1 → w1.cell? ⟨g, o, none⟩ = w.cell? ⟨g, o, none⟩) : A6 Z K N a b w1 := by
  obtain ⟨_, h1, h2, h3, h4, h5, h6⟩ := h
  exact ⟨hs, (hc Z 0 (.inl rfl)).trans h1, (hc Z 1 (.inl rfl)).trans h2, (hc (Z + 1) 0 (.inr rfl)).trans h3, (hc (Z + 1) 1 (.inr rfl)).trans h4, (hc (Z + 1) 2 (.inr rfl)).trans h5, (hc (Z + 1) 3 (.inr rfl)).trans h6⟩
theorem A6.of {Z : Nat} {K N : Int} {a b : V2} {w w1 : World} (h : A6 Z K N a b w) (hb : Below w.heap.size w w1) : A6 Z K N a b w1 :=
  h.map (Nat.lt_of_lt_of_le h.1 hb.size) fun g o hg => hb.cell (p := ⟨g, o, none⟩) (by have := h.1; show g < _; omega)
theorem A6.drew {Z : Nat} {K N : Int} {a b : V2} {w : World} (h : A6 Z K N a b w) : A6 Z K N a b w.drew := h.map h.1 fun _ _ _ => rfl
theorem A6.alloc {Z : Nat} {K N : Int} {a b : V2} {w : World} (h : A6 Z K N a b w) (o : Obj) : A6 Z K N a b (w.alloc o) := h.of (bA (Below.refl _ _) _)
theorem A6.grown {Z : Nat} {K N : Int} {a b : V2} {w w1 : World} {g : Nat} (h : A6 Z K N a b w) (hg : w.grownBy w1 (some g)) (hne : g < Z) : A6 Z K N a b w1 :=
  h.map (Nat.lt_of_lt_of_le h.1 hg.size) fun g' o hg' => hg.cell_far ⟨g', o, none⟩ (by have := h.1; show g' < _; omega) (by intro e; have := Option.some.inj e; simp at this; omega)
theorem A6.start (w : World) (K N : Int) (a b : V2) (t u : TypeId) : A6 w.heap.size K N a b ((w.alloc (.cells #[.int .i64 K, .int .i64 N] t)).alloc (.cells #[.bool a.1, .int .i64 a.2, .bool b.1, .int .i64 b.2] u)) := by
  simp [A6, go_sem]
end Go.Proofs.YtbbjhepagkkjeaaGreatDoor
namespace Go.Proofs.YtbbjhepagkkjeaaGreatDoor
open Go Go.RowKit
theorem OwnS.ownRow {w : World} {B g cap : Nat} {bs : List V2} (h : OwnS w B g cap bs) : OwnRow w g bs.length bs := by
  have hr := h.row
  have hlt := h.lt
  rcases h.2 with ⟨h1, _⟩ | ⟨g', cap', cur, h1, h2, h3, h4, h5, h6, h7⟩
  · simp at h1
  · simp only [Value.slice.injEq, Option.some.injEq, Addr.mk.injEq, and_true, true_and] at h1
    obtain ⟨rfl, rfl⟩ := h1
    refine ⟨hlt.1, fun o => ?_, fun o ho => ?_, hr⟩
    · simp [World.frozen?, h3]
    · refine ⟨cur[o]'(by omega), ?_⟩
      simp only [World.cell?, h3]
      simp
end Go.Proofs.YtbbjhepagkkjeaaGreatDoor
namespace Go.Proofs.YtbbjhepagkkjeaaGreatDoor
open Go Go.RowKit
def dRowN (bs : List Nat) (p : Nat) : Nat → List V2 × Nat
  | 0 => ([], p)
  | i + 1 => ((dRowN bs p i).1 ++ [(dVal bs (dRowN bs p i).2).1], (dVal bs (dRowN bs p i).2).2)
theorem dRowN_length (bs : List Nat) (p : Nat) : ∀ n, (dRowN bs p n).1.length = n
  | 0 => rfl
  | n + 1 => by simp [dRowN, dRowN_length bs p n]
theorem OwnS.drw {w w1 : World} {B g cap R : Nat} {bs : List V2} (h : OwnS w B g cap bs) (hd : Drw R w w1) (hg : g ≠ R) : OwnS w1 B g cap bs := by
  have hl := h.lt.1
  refine ⟨h.1, ?_⟩
  rcases h.2 with h1 | ⟨g', cap', cur, h1, h2, h3, h4⟩
  · exact Or.inl h1
  · have e : g' = g := by
      simp only [Value.slice.injEq, Option.some.injEq, Addr.mk.injEq, and_true, true_and] at h1
      exact h1.1.symm
    exact Or.inr ⟨g', cap', cur, h1, h2, by rw [hd.block g' (by rw [e]; exact hl) (by rw [e]; exact hg)]; exact h3, h4⟩
theorem OwnRow.drw {w w1 : World} {g n R : Nat} {xs : List V2} (h : OwnRow w g n xs) (hd : Drw R w w1) (hg : g ≠ R) : OwnRow w1 g n xs :=
  ⟨Nat.lt_of_lt_of_le h.size hd.size, fun o => (hd.frozen o h.size hg).trans (h.frz o), fun o ho => by
    obtain ⟨v, hv⟩ := h.all o ho
    exact ⟨v, (hd.cell o h.size hg).trans hv⟩, fun i x hx => ⟨(hd.cell _ h.size hg).trans (h.held i x hx).1, (hd.cell _ h.size hg).trans (h.held i x hx).2⟩⟩
theorem Drw.alloc {R : Nat} {w w1 : World} (h : Drw R w w1) (hR : R ≤ w1.heap.size) (o : Obj) : Drw R w (w1.alloc o) := h.below hR (bA (Below.refl _ _) o)
theorem Drw.grown {R g : Nat} {w w1 w2 : World} (h : Drw R w w1) (hg : w1.grownBy w2 (some g)) (h1 : w.heap.size ≤ g) (h2 : R ≤ g) (h3 : R ≤ w1.heap.size) : Drw R w w2 :=
  ⟨Nat.le_trans h.size hg.size, fun b hb hn => (hg.block b (Nat.lt_of_lt_of_le hb h.size) (by intro e; have := Option.some.inj e; omega)).trans (h.block b hb hn), h.low.grown hg h3 (fun k hk => by have := Option.some.inj hk; omega)⟩
theorem Rd.grown {w w1 : World} {R g : Nat} {a : Option Addr} {cap : Nat} {bs : List Nat} {p : Nat} (h : Rd w R a cap bs p) (hg : w.grownBy w1 (some g)) (hR : R < g) : Rd w1 R a cap bs p :=
  h.blocks hg.size (fun b hb => hg.block b (by have := h.size; omega) (by intro e; have := Option.some.inj e; omega))
set_option maxHeartbeats 1000000 in
theorem l1DrawRow_calls (w : World) (R : Nat) (a : Option Addr) (cap : Nat) (bs : List Nat) (p n : Nat) (h : Rd w R a cap bs p) (hn : n ≤ 1000) :
    Calls Tryz.prog 74 #[.pointer (some ⟨R, 0, none⟩), .int .i64 (n : Int)] w fun e w' => (∃ g' cap', e = .returned (.slice (some ⟨g', 0, none⟩) n cap') ∧ OwnS w' w.heap.size g' cap' (dRowN bs p n).1) ∧ Rd w' R a cap bs (dRowN bs p n).2 ∧ Drw R w w' := by
  have hR := h.size
  have HST : Hid (Rd (w.alloc (.cells #[] 54)) R a cap bs p) := h.of (bA (Below.refl _ _) _)
  clear h
  go_enter Tryz.func74, Tryz.ntmps74
  go_wp2
  go_loopw [5, 6] (fun s c wr => ∃ k g' cap' : Nat, k ≤ n ∧ c = .int .i64 k ∧ s = .slice (some ⟨g', 0, none⟩) k cap' ∧ OwnS wr w.heap.size g' cap' (dRowN bs p k).1 ∧ Rd wr R a cap bs (dRowN bs p k).2 ∧ Drw R w wr) (fun _ c _ => n - (intOf c).toNat)
  case atStart =>
    refine ⟨0, w.heap.size, 0, Nat.zero_le _, rfl, rfl, ?_, HST.out, (Drw.refl R w).alloc (Nat.le_of_lt hR) _⟩
    exact ⟨rfl, Or.inr ⟨w.heap.size, 0, #[], rfl, Nat.le_refl _, (MapKept.heap_alloc w _).1, Nat.le_refl _, Nat.zero_le _, rfl, rfl⟩⟩
  case round =>
    clear HST
    obtain ⟨k, g', cap', hk, rfl, rfl, hO, hRd, hD⟩ := hrel
    by_cases hlt : k < n
    · have j1 : (k : Int) < (n : Int) := by omega
      have DV := l1DrawVal_calls wr R a cap bs _ hRd
      have hlk := dRowN_length bs p k
      have hts : dRowN bs p (k + 1) = ((dRowN bs p k).1 ++ [(dVal bs (dRowN bs p k).2).1], (dVal bs (dRowN bs p k).2).2) := rfl
      have hOl := hO.lt
      generalize (dRowN bs p k).1 = xs at *
      generalize (dRowN bs p k).2 = q at *
      generalize (dVal bs q).1 = y at *
      generalize (dVal bs q).2 = q' at *
      have HDV := hide DV; have HTS := hide hts; have HLK := hide hlk; have HO := hide hO; have HD := hide hD
      clear DV hts hO hD hRd
      obtain ⟨i, hi, hz⟩ := Option.map_eq_some_iff.1 (show (Tryz.prog.info? 54).map (fun i => (i.zero, i.size, i.bytes)) = some (some (.agg #[.bool false, .int .i64 0]), 2, 16) by kernel_rfl)
      simp only [Prod.mk.injEq] at hz
      obtain ⟨hz0, hz1, hz2⟩ := hz
      go_wp2_with fail
      refine (unhide HDV).mono ?_; rintro e w1 ⟨rfl, hr1, hd1⟩
      have hsz1 := hd1.size
      have HO1 := hide (((unhide HO).drw hd1 (by omega)).of (bA (Below.refl _ _) (.cells #[.bool y.1, .int .i64 y.2] 54)))
      have HD1 := hide (((unhide HD).trans hd1).alloc (by omega) (.cells #[.bool y.1, .int .i64 y.2] 54))
      have HR1 := hide (hr1.of (bA (Below.refl _ _) (.cells #[.bool y.1, .int .i64 y.2] 54)))
      clear HO HDV HD hr1 hd1
      go_wp2_with (at_builtin; refine wpList_append_lies _ rfl (.tmp 13) (.tmp 16) 52 rfl w.heap.size 54 i _ 2 16 Tryz.underlying52 hi hz0 hz1 hz2 rfl (by decide) (.slice (some ⟨g', 0, none⟩) k cap') k (flatV xs) rfl (by have := unhide HO1; unfold OwnS at this; rw [unhide HLK] at this; exact this) ⟨w1.heap.size, 0, none⟩ 1 1 [.bool y.1, .int .i64 y.2] rfl rfl (World.news_of_block (cs := #[.bool y.1, .int .i64 y.2]) (MapKept.heap_alloc w1 _).1) (by intro u hu; simp at hu; rcases hu with rfl | rfl <;> rfl) (by decide) (by unfold maxLen; omega) (by omega) (by simp; omega) _ rfl ?_; intro g2 cap2 w2 hown2 hgrow hat hlt2)
      have HO2 : Hid (OwnS w2 w.heap.size g2 cap2 (dRowN bs p (k + 1)).1) := by
        show OwnS _ _ _ _ _
        unfold OwnS
        rw [unhide HTS, flatV_append, show (xs ++ [y]).length = k + 1 by simp; exact unhide HLK]
        exact hown2
      have HR2 : Hid (Rd w2 R a cap bs (dRowN bs p (k + 1)).2) := by
        show Rd _ _ _ _ _ _
        rw [unhide HTS]
        exact (unhide HR1).grown (g := g') hgrow (by omega)
      have HD2 : Hid (Drw R w w2) := (unhide HD1).grown (g := g') hgrow (by omega) (by omega) (by simp; omega)
      clear hown2 hgrow hat HTS HLK HO1 HD1 HR1
      go_wp2
      go_roundw
      case rel => exact ⟨k + 1, g2, cap2, by omega, by go_num, rfl, HO2.out, HR2.out, HD2.out⟩
      case measure => simp [intOf]; omega
    · obtain rfl : k = n := by omega
      go_wp2
      go_ret
      exact ⟨⟨_, _, rfl, hO⟩, hRd, hD⟩
end Go.Proofs.YtbbjhepagkkjeaaGreatDoor
namespace Go.Proofs.YtbbjhepagkkjeaaGreatDoor
open Go Go.RowKit
theorem make_vals (n : Nat) (hn : n ≤ 1048576) (w : World) :
    (Instr.makeSlice 52 (.int .i64 (n : Int)) (.int .i64 (n : Int))).run Tryz.prog w = .ok (.slice (some ⟨w.heap.size, 0, none⟩) n n) (w.alloc (.cells (madeCells #[.bool false, .int .i64 0] (n * 2)) 54)) := by
  obtain ⟨i, hi, hz⟩ := Option.map_eq_some_iff.1 (show (Tryz.prog.info? 54).map (fun i => (i.zero, i.size, i.bytes)) = some (some (.agg #[.bool false, .int .i64 0]), 2, 16) by kernel_rfl)
  simp only [Prod.mk.injEq] at hz
  have := run_make (P := Tryz.prog) w 52 54 i _ Tryz.underlying52 hi hz.1 .i64 .i64 (n : Int) (n : Int) (by omega) (by omega) (by rw [hz.2.2]; omega) (by omega)
  rw [hz.2.1] at this
  simpa [Value.cells] using this
end Go.Proofs.YtbbjhepagkkjeaaGreatDoor
namespace Go.Proofs.YtbbjhepagkkjeaaGreatDoor
open Go Go.RowKit
def clnV (x : V2) : V2 := if x.1 = true then (true, 0) else x
theorem cleanVal_calls' (b : Bool) (n : Int) (w : World) :
    Calls Tryz.prog 92 #[.agg #[.bool b, .int .i64 n]] w fun e w' => e = .returned (.agg #[.bool (clnV (b, n)).1, .int .i64 (clnV (b, n)).2]) ∧ Below w.heap.size w w' := by
  cases b
  all_goals
    go_enter Tryz.func92, Tryz.ntmps92
    go_wp2
    refine bodyPost_ret (v := .agg #[.bool _, .int .i64 _]) (by simp [results, Tryz.results92, go_sem]; exact ⟨rfl, rfl⟩) rfl ⟨by simp [clnV], ?_⟩
    exact bA (bA (Below.refl _ _) _) _
theorem l1Clean_calls' (b : Bool) (n : Int) (w : World) :
    Calls Tryz.prog 67 #[.agg #[.bool b, .int .i64 n]] w fun e w' => e = .returned (.agg #[.bool (clnV (b, n)).1, .int .i64 (clnV (b, n)).2]) ∧ Below w.heap.size w w' := by
  cases b
  all_goals
    go_enter Tryz.func67, Tryz.ntmps67
    go_wp2
    refine bodyPost_ret (v := .agg #[.bool _, .int .i64 _]) (by simp [results, Tryz.results67, go_sem]; exact ⟨rfl, rfl⟩) rfl ⟨by simp [clnV], ?_⟩
    exact bA (bA (Below.refl _ _) _) _
end Go.Proofs.YtbbjhepagkkjeaaGreatDoor
