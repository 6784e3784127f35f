import Derived.Test.YtbbjhepagkkjeaaGreatDoorQ0
import Derived.Deep.RegionHeld3
import Derived.Deep.DeepCutAuto
namespace Go.Proofs.YtbbjhepagkkjeaaGreatDoor
open Go Go.RowKit
def dVal (bs : List Nat) (p : Nat) : (Bool × Int) × Nat :=
  if nxt bs p = 255 then ((false, 9223372036854775807), adv bs p)
  else if nxt bs p = 254 then ((false, -9223372036854775808), adv bs p)
  else if nxt bs p = 253 then ((true, 7), adv bs p)
  else if nxt bs p % 7 = 6 then ((true, 0), adv bs p)
  else if 240 ≤ nxt bs p then ((false, (nxt bs (adv bs p) : Int) * 256 + (nxt bs (adv bs (adv bs p)) : Int) - 30000), adv bs (adv bs (adv bs p)))
  else ((false, (nxt bs p : Int) % 7 - 1), adv bs p)
theorem l1NumD_calls (n : Int) (w : World) :
    Calls Tryz.prog 43 #[.int .i64 n] w fun e w' => e = .returned (.agg #[.bool false, .int .i64 n]) ∧ Below w.heap.size w w' := by
  go_enter Tryz.func43, Tryz.ntmps43
  go_wp2
  exact bodyPost_ret (v := .agg #[.bool false, .int .i64 n]) (by simp [results, Tryz.results43, go_sem]) rfl ⟨rfl, bA (Below.refl _ _) _⟩
structure ResBox (w w1 : World) (R : Nat) : Prop where
  lt : R < w.heap.size
  size : w.heap.size < w1.heap.size
  z0 : w1.cell? ⟨w.heap.size, 0, none⟩ = some (.bool false)
  z1 : w1.cell? ⟨w.heap.size, 1, none⟩ = some (.int .i64 0)
  zf : ∀ o, w1.frozen? ⟨w.heap.size, o, none⟩ = false
  drw : Drw R w w1
theorem ResBox.start (w : World) (R : Nat) (t : TypeId) (h : R < w.heap.size) : ResBox w (w.alloc (.cells #[.bool false, .int .i64 0] t)) R :=
  ⟨h, by simp, by simp [go_sem], by simp [go_sem], fun o => by simp [go_sem], (Drw.refl R w).below (Nat.le_of_lt h) (bA (Below.refl _ _) _)⟩
theorem ResBox.draw {w w1 w2 : World} {R : Nat} (h : ResBox w w1 R) (d : Drw R w1 w2) : ResBox w w2 R :=
  ⟨h.lt, Nat.lt_of_lt_of_le h.size d.size, (d.cell 0 h.size (by have := h.lt; omega)).trans h.z0, (d.cell 1 h.size (by have := h.lt; omega)).trans h.z1, fun o => (d.frozen o h.size (by have := h.lt; omega)).trans (h.zf o), h.drw.trans d⟩
theorem ResBox.call {w w1 w2 : World} {R : Nat} (h : ResBox w w1 R) (b : Below w1.heap.size w1 w2) : ResBox w w2 R :=
  h.draw ((Drw.refl R w1).below (by have := h.lt; have := h.size; omega) b)
theorem Drw.far {R Z o : Nat} {w w1 : World} (h : Drw R w w1) (hZ : w.heap.size ≤ Z) (hR : R ≤ Z) (v : Value) : Drw R w (w1.setCell ⟨Z, o, none⟩ v) :=
  ⟨by simpa using h.size, fun b hb hn => (Below.heap_setCell w1 ⟨Z, o, none⟩ v b (by show b ≠ Z; omega)).trans (h.block b hb hn), h.low.setCell hR v⟩
theorem ResBox.fin {w w1 : World} {R : Nat} (h : ResBox w w1 R) (u v : Value) : Drw R w ((w1.setCell ⟨w.heap.size, 0, none⟩ u).setCell ⟨w.heap.size, 1, none⟩ v) :=
  (h.drw.far (Nat.le_refl _) (Nat.le_of_lt h.lt) u).far (Nat.le_refl _) (Nat.le_of_lt h.lt) v
theorem ResBox.rd {w w1 : World} {R : Nat} (h : ResBox w w1 R) {a : Option Addr} {cap : Nat} {bs : List Nat} {p : Nat} (hr : Rd w1 R a cap bs p) (u v : Value) : Rd ((w1.setCell ⟨w.heap.size, 0, none⟩ u).setCell ⟨w.heap.size, 1, none⟩ v) R a cap bs p :=
  hr.ofB (B := w.heap.size) h.lt (((Below.refl w.heap.size w1).setCell (p := ⟨w.heap.size, 0, none⟩) (Nat.le_refl _) u).setCell (p := ⟨w.heap.size, 1, none⟩) (Nat.le_refl _) v)
set_option maxRecDepth 100000 in
set_option maxHeartbeats 1000000 in
theorem l1DrawVal_calls (w : World) (R : Nat) (a : Option Addr) (cap : Nat) (bs : List Nat) (p : Nat) (h : Rd w R a cap bs p) :
    Calls Tryz.prog 103 #[.pointer (some ⟨R, 0, none⟩)] w fun e w' => e = .returned (.agg #[.bool (dVal bs p).1.1, .int .i64 (dVal bs p).1.2]) ∧ Rd w' R a cap bs (dVal bs p).2 ∧ Drw R w w' := by
  have hB := ResBox.start w R 54 h.size
  have NX := next_calls (w.alloc (.cells #[.bool false, .int .i64 0] 54)) R a cap bs p (h.of (bA (Below.refl _ _) _))
  have hk := nxt_le h p
  have hk1 := nxt_le h (adv bs p)
  have hk2 := nxt_le h (adv bs (adv bs p))
  unfold dVal
  generalize hke : nxt bs p = k at *
  have HNX := hide NX
  clear NX hke h
  by_cases c1 : k = 255
  · subst c1
    simp only [if_true]
    go_enter Tryz.func103, Tryz.ntmps103
    go_wp2_with fail
    refine (unhide HNX).mono ?_; rintro e w1 ⟨rfl, hr1, hd1⟩
    have hB1 := hB.draw hd1
    clear HNX hd1
    have z0 := hB1.z0; have z1 := hB1.z1; have zf := hB1.zf; have zs := hB1.size
    have HB := hide hB1; have HR := hide hr1
    clear hr1 hB1 hB
    go_wp2
    exact bodyPost_ret (v := .agg #[.bool false, .int .i64 9223372036854775807]) (by simp [results, Tryz.results103, go_sem, z0, z1]) rfl ⟨rfl, (unhide HB).rd (unhide HR) _ _, (unhide HB).fin _ _⟩
  rw [if_neg c1]
  have i1 : ¬ (k : Int) = 255 := by omega
  have i1' : ((k : Int) == 255) = false := by simpa using i1
  by_cases c2 : k = 254
  · subst c2
    simp only [if_true]
    go_enter Tryz.func103, Tryz.ntmps103
    go_wp2_with fail
    refine (unhide HNX).mono ?_; rintro e w1 ⟨rfl, hr1, hd1⟩
    have hB1 := hB.draw hd1
    clear HNX hd1
    have z0 := hB1.z0; have z1 := hB1.z1; have zf := hB1.zf; have zs := hB1.size
    have HB := hide hB1; have HR := hide hr1
    clear hr1 hB1 hB
    go_wp2
    exact bodyPost_ret (v := .agg #[.bool false, .int .i64 (-9223372036854775808)]) (by simp [results, Tryz.results103, go_sem, z0, z1]) rfl ⟨rfl, (unhide HB).rd (unhide HR) _ _, (unhide HB).fin _ _⟩
  rw [if_neg c2]
  have i2 : ¬ (k : Int) = 254 := by omega
  have i2' : ((k : Int) == 254) = false := by simpa using i2
  by_cases c3 : k = 253
  · subst c3
    simp only [if_true]
    go_enter Tryz.func103, Tryz.ntmps103
    go_wp2_with fail
    refine (unhide HNX).mono ?_; rintro e w1 ⟨rfl, hr1, hd1⟩
    have hB1 := hB.draw hd1
    clear HNX hd1
    have z0 := hB1.z0; have z1 := hB1.z1; have zf := hB1.zf; have zs := hB1.size
    have HB := hide hB1; have HR := hide hr1
    clear hr1 hB1 hB
    go_wp2
    exact bodyPost_ret (v := .agg #[.bool true, .int .i64 7]) (by simp [results, Tryz.results103, go_sem, z0, z1]) rfl ⟨rfl, (unhide HB).rd (unhide HR) _ _, (unhide HB).fin _ _⟩
  rw [if_neg c3]
  have i3 : ¬ (k : Int) = 253 := by omega
  have i3' : ((k : Int) == 253) = false := by simpa using i3
  by_cases c4 : k % 7 = 6
  · rw [if_pos c4]
    have i4 : (k : Int) % 7 = 6 := by omega
    have i4' : ((k : Int) % 7 == 6) = true := by simpa using i4
    clear c1 c2 c3 c4 i1 i2 i3
    go_enter Tryz.func103, Tryz.ntmps103
    go_wp2_with fail
    refine (unhide HNX).mono ?_; rintro e w1 ⟨rfl, hr1, hd1⟩
    have hB1 := hB.draw hd1
    clear HNX hd1
    have z0 := hB1.z0; have z1 := hB1.z1; have zf := hB1.zf; have zs := hB1.size
    have HB := hide hB1; have HR := hide hr1
    clear hr1 hB1 hB
    go_wp2
    exact bodyPost_ret (v := .agg #[.bool true, .int .i64 0]) (by simp [results, Tryz.results103, go_sem, z0, z1]) rfl ⟨rfl, (unhide HB).rd (unhide HR) _ _, (unhide HB).fin _ _⟩
  rw [if_neg c4]
  have i4 : ¬ (k : Int) % 7 = 6 := by omega
  have i4' : ((k : Int) % 7 == 6) = false := by simpa using i4
  by_cases c5 : 240 ≤ k
  · rw [if_pos c5]
    have i5 : (240 : Int) ≤ (k : Int) := by omega
    clear c1 c2 c3 c4 c5 i1 i2 i3 i4
    go_enter Tryz.func103, Tryz.ntmps103
    go_wp2_with fail
    refine (unhide HNX).mono ?_; rintro e w1 ⟨rfl, hr1, hd1⟩
    have hB1 := hB.draw hd1
    clear HNX hd1
    have N1 := next_calls w1 R a cap bs _ hr1
    have HN1 := hide N1
    clear hr1 N1
    go_wp2_with fail
    refine (unhide HN1).mono ?_; rintro e w2 ⟨rfl, hr2, hd2⟩
    have hB2 := hB1.draw hd2
    have N2 := next_calls w2 R a cap bs _ hr2
    have HN2 := hide N2
    clear hr2 hd2 hB1 N2 HN1
    go_wp2_with fail
    refine (unhide HN2).mono ?_; rintro e w3 ⟨rfl, hr3, hd3⟩
    have hB3 := hB2.draw hd3
    clear hd3 hB2 HN2
    go_wp2_with fail
    refine (l1NumD_calls _ _).mono ?_; rintro e w4 ⟨rfl, hb4⟩
    have hr4 := hr3.of hb4
    have hB4 := hB3.call hb4
    clear hb4 hr3 hB3
    have z0 := hB4.z0; have z1 := hB4.z1; have zf := hB4.zf; have zs := hB4.size
    have HB := hide hB4; have HR := hide hr4
    clear hr4 hB4 hB
    go_wp2
    exact bodyPost_ret (v := .agg #[.bool false, .int .i64 ((nxt bs (adv bs p) : Int) * 256 + (nxt bs (adv bs (adv bs p)) : Int) - 30000)]) (by simp [results, Tryz.results103, go_sem, z0, z1]) rfl ⟨rfl, (unhide HB).rd (unhide HR) _ _, (unhide HB).fin _ _⟩
  rw [if_neg c5]
  have i5 : ¬ (240 : Int) ≤ (k : Int) := by omega
  clear c1 c2 c3 c4 c5 i1 i2 i3 i4
  go_enter Tryz.func103, Tryz.ntmps103
  go_wp2_with fail
  refine (unhide HNX).mono ?_; rintro e w1 ⟨rfl, hr1, hd1⟩
  have hB1 := hB.draw hd1
  clear HNX hd1
  go_wp2_with fail
  refine (l1NumD_calls ((k : Int) % 7 - 1) w1).mono ?_; rintro e w4 ⟨rfl, hb4⟩
  have hr4 := hr1.of hb4
  have hB4 := hB1.call hb4
  clear hb4 hr1 hB1
  have z0 := hB4.z0; have z1 := hB4.z1; have zf := hB4.zf; have zs := hB4.size
  have HB := hide hB4; have HR := hide hr4
  clear hr4 hB4 hB
  go_wp2
  exact bodyPost_ret (v := .agg #[.bool false, .int .i64 ((k : Int) % 7 - 1)]) (by simp [results, Tryz.results103, go_sem, z0, z1]) rfl ⟨rfl, (unhide HB).rd (unhide HR) _ _, (unhide HB).fin _ _⟩
end Go.Proofs.YtbbjhepagkkjeaaGreatDoor
namespace Go.Proofs.YtbbjhepagkkjeaaGreatDoor
open Go Go.RowKit
end Go.Proofs.YtbbjhepagkkjeaaGreatDoor
namespace Go.Proofs.YtbbjhepagkkjeaaGreatDoor
open Go Go.RowKit
abbrev TVal (w : World) : Prop := TabAt w 11 [.bool false, .int .i64 0, .bool true, .int .i64 0, .bool false, .int .i64 1]
abbrev TNot (w : World) : Prop := TabAt w 15 [.int .i64 2, .int .i64 1, .int .i64 0]
end Go.Proofs.YtbbjhepagkkjeaaGreatDoor
namespace Go.Proofs.YtbbjhepagkkjeaaGreatDoor
open Go Go.RowKit
end Go.Proofs.YtbbjhepagkkjeaaGreatDoor
namespace Go.Proofs.YtbbjhepagkkjeaaGreatDoor
open Go Go.RowKit
abbrev TAnd (w : World) : Prop := TabAt w 13 [.int .i64 0, .int .i64 0, .int .i64 0, .int .i64 0, .int .i64 1, .int .i64 1, .int .i64 0, .int .i64 1, .int .i64 2]
end Go.Proofs.YtbbjhepagkkjeaaGreatDoor
namespace Go.Proofs.YtbbjhepagkkjeaaGreatDoor
open Go Go.RowKit
abbrev TOr (w : World) : Prop := TabAt w 14 [.int .i64 0, .int .i64 1, .int .i64 2, .int .i64 1, .int .i64 1, .int .i64 2, .int .i64 2, .int .i64 2, .int .i64 2]
end Go.Proofs.YtbbjhepagkkjeaaGreatDoor
namespace Go.Proofs.YtbbjhepagkkjeaaGreatDoor
open Go Go.RowKit
def cmpv (n m : Int) : Int := if n < m then -1 else if m < n then 1 else 0
theorem Compare_calls (n m : Int) (w : World) :
    Calls Tryz.prog 114 #[.int .i64 n, .int .i64 m] w fun e w' => e = .returned (.int .i64 (cmpv n m)) ∧ w' = w := by
  have hn : (n != n) = false := by simp
  have hm : (m != m) = false := by simp
  by_cases h1 : n < m
  · go_enter Tryz.func114, Tryz.ntmps114
    go_wp2
    go_ret
    exact ⟨by simp [cmpv, h1], rfl⟩
  · by_cases h2 : m < n
    · go_enter Tryz.func114, Tryz.ntmps114
      go_wp2
      go_ret
      exact ⟨by simp [cmpv, h2, Int.not_lt.2 (Int.le_of_lt h2)], rfl⟩
    · have h3 : n = m := by omega
      subst h3
      go_enter Tryz.func114, Tryz.ntmps114
      go_wp2
      go_ret
      exact ⟨by simp [cmpv], rfl⟩
end Go.Proofs.YtbbjhepagkkjeaaGreatDoor
namespace Go.Proofs.YtbbjhepagkkjeaaGreatDoor
open Go Go.RowKit
def holds (op n m : Int) : Bool := if n < m then decide (op = 2 ∨ op = 3 ∨ op = 4) else if m < n then decide (op = 2 ∨ op = 5 ∨ op = 6) else decide (op = 1 ∨ op = 4 ∨ op = 6)
def cmp3 (op : Int) (b c : Bool) (n m : Int) : Int := if b = true ∨ c = true ∨ op < 1 ∨ 6 < op then 1 else if holds op n m = true then 2 else 0
end Go.Proofs.YtbbjhepagkkjeaaGreatDoor
namespace Go.Proofs.YtbbjhepagkkjeaaGreatDoor
open Go Go.RowKit
abbrev TCmp (w : World) : Prop := TabAt w 12 [.int .i64 0, .int .i64 0, .int .i64 0, .int .i64 0, .int .i64 2, .int .i64 0, .int .i64 2, .int .i64 0, .int .i64 2, .int .i64 2, .int .i64 0, .int .i64 0, .int .i64 2, .int .i64 2, .int .i64 0, .int .i64 0, .int .i64 0, .int .i64 2, .int .i64 0, .int .i64 2, .int .i64 2]
end Go.Proofs.YtbbjhepagkkjeaaGreatDoor
namespace Go.Proofs.YtbbjhepagkkjeaaGreatDoor
open Go Go.RowKit
end Go.Proofs.YtbbjhepagkkjeaaGreatDoor
namespace Go.Proofs.YtbbjhepagkkjeaaGreatDoor
open Go Go.RowKit
abbrev V2 : Type := Bool × Int
def RowAt (w : World) (g off : Nat) (xs : List V2) : Prop := ∀ i x, xs[i]? = some x → w.cell? ⟨g, off + i * 2, none⟩ = some (.bool x.1) ∧ w.cell? ⟨g, off + i * 2 + 1, none⟩ = some (.int .i64 x.2)
def IsRow (w : World) (v : Value) (xs : List V2) : Prop :=
  (xs = [] ∧ ∃ a cap, v = .slice a 0 cap) ∨ ∃ g off cap, v = .slice (some ⟨g, off, none⟩) xs.length cap ∧ xs.length ≤ cap ∧ g < w.heap.size ∧ RowAt w g off xs
theorem RowAt.of {w w1 : World} {g off : Nat} {xs : List V2} (h : RowAt w g off xs) (hg : g < w.heap.size) (hb : Below w.heap.size w w1) : RowAt w1 g off xs := fun i x hx =>
  ⟨(hb.cell (p := ⟨g, off + i * 2, none⟩) hg).trans (h i x hx).1, (hb.cell (p := ⟨g, off + i * 2 + 1, none⟩) hg).trans (h i x hx).2⟩
theorem IsRow.of {w w1 : World} {v : Value} {xs : List V2} (h : IsRow w v xs) (hb : Below w.heap.size w w1) : IsRow w1 v xs := by
  rcases h with h | ⟨g, off, cap, h1, h2, h3, h4⟩
  · exact Or.inl h
  · exact Or.inr ⟨g, off, cap, h1, h2, Nat.lt_of_lt_of_le h3 hb.size, h4.of h3 hb⟩
theorem RowAt.tail {w : World} {g off : Nat} {x : V2} {xs : List V2} (h : RowAt w g off (x :: xs)) : RowAt w g (off + 2) xs := fun i y hy => by
  have := h (i + 1) y (by simpa using hy)
  rw [show off + 2 + i * 2 = off + (i + 1) * 2 from by omega]
  exact this
theorem RowAt.at {w : World} {g off : Nat} {xs : List V2} (h : RowAt w g off xs) (i : Nat) (hi : i < xs.length) : w.cell? ⟨g, off + i * 2, none⟩ = some (.bool xs[i].1) ∧ w.cell? ⟨g, off + i * 2 + 1, none⟩ = some (.int .i64 xs[i].2) :=
  h i xs[i] (by simp [hi])
structure OwnRow (w : World) (g n : Nat) (xs : List V2) : Prop where
  size : g < w.heap.size
  frz : ∀ o, w.frozen? ⟨g, o, none⟩ = false
  all : ∀ o, o < n * 2 → ∃ v, w.cell? ⟨g, o, none⟩ = some v
  held : RowAt w g 0 xs
theorem OwnRow.of {w w1 : World} {g n : Nat} {xs : List V2} (h : OwnRow w g n xs) (hb : Below w.heap.size w w1) : OwnRow w1 g n xs :=
  ⟨Nat.lt_of_lt_of_le h.size hb.size, fun o => (hb.frozen (p := ⟨g, o, none⟩) h.size).trans (h.frz o), fun o ho => by
    obtain ⟨v, hv⟩ := h.all o ho
    exact ⟨v, (hb.cell (p := ⟨g, o, none⟩) h.size).trans hv⟩, h.held.of h.size hb⟩
theorem frozen_setCell (w : World) (p a : Addr) (v : Value) : (w.setCell p v).frozen? a = w.frozen? a := by simp [go_sem]
theorem setCell_there {w : World} {g o o' : Nat} {v u : Value} (h : w.cell? ⟨g, o, none⟩ = some u) : ∃ z, (w.setCell ⟨g, o', none⟩ v).cell? ⟨g, o, none⟩ = some z := by
  by_cases e : o' = o
  · subst e; exact ⟨v, World.cell?_setCell_same _ _ _ h⟩
  · exact ⟨u, by rw [World.cell?_setCell_other _ _ _ _ (by intro he; injection he; contradiction)]; exact h⟩
theorem setCell_other {w : World} {g o o' : Nat} {v : Value} (h : o' ≠ o) : (w.setCell ⟨g, o', none⟩ v).cell? ⟨g, o, none⟩ = w.cell? ⟨g, o, none⟩ :=
  World.cell?_setCell_other _ _ _ _ (by intro he; injection he; contradiction)
theorem OwnRow.push {w : World} {g n : Nat} {xs : List V2} (h : OwnRow w g n xs) (hn : xs.length < n) (b : Bool) (k : Int) :
    OwnRow ((w.setCell ⟨g, xs.length * 2, none⟩ (.bool b)).setCell ⟨g, xs.length * 2 + 1, none⟩ (.int .i64 k)) g n (xs ++ [(b, k)]) := by
  refine ⟨by simpa using h.size, fun o => by rw [frozen_setCell, frozen_setCell]; exact h.frz o, fun o ho => ?_, fun i x hx => ?_⟩
  · obtain ⟨v, hv⟩ := h.all o ho
    obtain ⟨z, hz⟩ := setCell_there (o' := xs.length * 2) (v := .bool b) hv
    exact setCell_there hz
  · simp only [Nat.zero_add]
    by_cases hi : i < xs.length
    · rw [List.getElem?_append_left hi] at hx
      have := h.held i x hx
      simp only [Nat.zero_add] at this
      refine ⟨?_, ?_⟩
      · rw [setCell_other (by omega), setCell_other (by omega)]; exact this.1
      · rw [setCell_other (by omega), setCell_other (by omega)]; exact this.2
    · obtain rfl : i = xs.length := by
        have := (List.getElem?_eq_some_iff.1 hx).1
        simp at this; omega
      simp at hx
      subst hx
      obtain ⟨v0, h0⟩ := h.all (xs.length * 2) (by omega)
      obtain ⟨v1, h1⟩ := h.all (xs.length * 2 + 1) (by omega)
      obtain ⟨z, hz⟩ := setCell_there (o' := xs.length * 2) (v := .bool b) h1
      refine ⟨?_, World.cell?_setCell_same _ _ _ hz⟩
      rw [setCell_other (by omega)]
      exact World.cell?_setCell_same _ _ _ h0
theorem OwnRow.made (w : World) (n : Nat) (C : Array Value) (t : TypeId) (hC : C.size = n * 2) : OwnRow (w.alloc (.cells C t)) w.heap.size n [] :=
  ⟨by simp, fun o => by simp [go_sem], fun o ho => ⟨C[o]'(by omega), by rw [World.cell?_alloc_at C t _ o rfl]; simp⟩, fun i x hx => by simp at hx⟩
theorem take_snoc {α : Type} (xs : List α) (k : Nat) (h : k < xs.length) : xs.take (k + 1) = xs.take k ++ [xs[k]] := by
  rw [List.take_succ_eq_append_getElem h]
theorem OwnRow.next {w : World} {g n k : Nat} {xs : List V2} (h : OwnRow w g n (xs.take k)) (hk : k < xs.length) (hn : k < n) :
    OwnRow ((w.setCell ⟨g, k * 2, none⟩ (.bool xs[k].1)).setCell ⟨g, k * 2 + 1, none⟩ (.int .i64 xs[k].2)) g n (xs.take (k + 1)) := by
  have hl : (xs.take k).length = k := by simp; omega
  have := h.push (by omega) xs[k].1 xs[k].2
  rw [hl] at this
  rw [take_snoc xs k hk]
  exact this
end Go.Proofs.YtbbjhepagkkjeaaGreatDoor
namespace Go.Proofs.YtbbjhepagkkjeaaGreatDoor
open Go Go.RowKit
def tk (k n W : Int) : Int :=
  if k = 1 ∨ (k = 2 ∧ n = 0) then 0 else if k = 3 ∧ 0 ≤ n ∧ n < W then 0 else if k = 4 ∧ 1 ≤ n ∧ n ≤ 6 then 2
  else if (k = 5 ∨ k = 6) ∧ n = 0 then 2 else if (k = 7 ∨ k = 8) ∧ n = 0 then 1 else -1
end Go.Proofs.YtbbjhepagkkjeaaGreatDoor
namespace Go.Proofs.YtbbjhepagkkjeaaGreatDoor
open Go Go.RowKit
def vv (t : Int) : V2 := (vB t, vI t)
def cln (x : V2) : V2 := if x.1 = true then (true, 0) else x
def opv (k n : Int) (a b : V2) (row : List V2) : V2 :=
  if k = 1 then (false, n) else if k = 3 then cln (row.getD n.toNat (true, 0)) else if k = 4 then vv (cmp3 n a.1 b.1 a.2 b.2) else if k = 5 then vv (min (tr a.1 a.2) (tr b.1 b.2))
  else if k = 6 then vv (max (tr a.1 a.2) (tr b.1 b.2)) else if k = 7 then vv (2 - tr a.1 a.2) else if k = 8 then vv (if a.1 = true then 2 else 0) else (true, 0)
end Go.Proofs.YtbbjhepagkkjeaaGreatDoor
namespace Go.Proofs.YtbbjhepagkkjeaaGreatDoor
open Go Go.RowKit
end Go.Proofs.YtbbjhepagkkjeaaGreatDoor
namespace Go.Proofs.YtbbjhepagkkjeaaGreatDoor
open Go Go.RowKit
end Go.Proofs.YtbbjhepagkkjeaaGreatDoor
namespace Go.Proofs.YtbbjhepagkkjeaaGreatDoor
abbrev O2 : Type := Int × Int
def fwd (W : Int) : List O2 → Nat → Option Nat
  | [], h => some h
  | o :: r, h => if tk o.1 o.2 W < 0 then none else if (h : Int) < tk o.1 o.2 W then none else fwd W r (h + 1 - (tk o.1 o.2 W).toNat)
def exOk (W : Int) (ops : List O2) : Bool := decide (0 ≤ W ∧ ops.length ≤ 5000 ∧ fwd W ops 0 = some 1)
end Go.Proofs.YtbbjhepagkkjeaaGreatDoor
