import Derived.Test.YtafmlbojmmdcdaaDoorReader
namespace Go.Proofs.YtafmlbojmmdcdaaDoor
open Go Go.RowKit
/-- the Val that is drawn at p, and the place behind it -/
def dVal (bs : List Nat) (p : Nat) : (Bool × Int) × Nat :=
  if nxt bs p = 255 then ((false, 9223372036854775807), adv bs p)
  else if nxt bs p = 254 then ((false, -9223372036854775808), adv bs p)
  else if nxt bs p = 253 then ((true, 7), adv bs p)
  else if nxt bs p % 7 = 6 then ((true, 0), adv bs p)
  else if 240 ≤ nxt bs p then ((false, (nxt bs (adv bs p) : Int) * 256 + (nxt bs (adv bs (adv bs p)) : Int) - 30000), adv bs (adv bs (adv bs p)))
  else ((false, (nxt bs p : Int) % 7 - 1), adv bs p)
theorem l1NumD_calls (n : Int) (w : World) :
    Calls Tryd.prog 35 #[.int .i64 n] w fun e w' => e = .returned (.agg #[.bool false, .int .i64 n]) ∧ Below w.heap.size w w' := by
  go_enter Tryd.func35, Tryd.ntmps35
  go_wp2
  exact bodyPost_ret (v := .agg #[.bool false, .int .i64 n]) (by simp [results, Tryd.results35, go_sem]) rfl ⟨rfl, bA (Below.refl _ _) _⟩
/-- the box of a result, laid at the call's beginning, behind draws -/
structure ResBox (w w1 : World) (R : Nat) : Prop where
  lt : R < w.heap.size
  size : w.heap.size < w1.heap.size
  z0 : w1.cell? ⟨w.heap.size, 0, none⟩ = some (.bool false)
  z1 : w1.cell? ⟨w.heap.size, 1, none⟩ = some (.int .i64 0)
  zf : ∀ o, w1.frozen? ⟨w.heap.size, o, none⟩ = false
  drw : Drw R w w1
theorem ResBox.start (w : World) (R : Nat) (t : TypeId) (h : R < w.heap.size) : ResBox w (w.alloc (.cells #[.bool false, .int .i64 0] t)) R :=
  ⟨h, by simp, by simp [go_sem], by simp [go_sem], fun o => by simp [go_sem], (Drw.refl R w).below (Nat.le_of_lt h) (bA (Below.refl _ _) _)⟩
theorem ResBox.draw {w w1 w2 : World} {R : Nat} (h : ResBox w w1 R) (d : Drw R w1 w2) : ResBox w w2 R :=
  ⟨h.lt, Nat.lt_of_lt_of_le h.size d.size, (d.cell 0 h.size (by have := h.lt; omega)).trans h.z0, (d.cell 1 h.size (by have := h.lt; omega)).trans h.z1, fun o => (d.frozen o h.size (by have := h.lt; omega)).trans (h.zf o), h.drw.trans d⟩
theorem ResBox.call {w w1 w2 : World} {R : Nat} (h : ResBox w w1 R) (b : Below w1.heap.size w1 w2) : ResBox w w2 R :=
  h.draw ((Drw.refl R w1).below (by have := h.lt; have := h.size; omega) b)
theorem Drw.far {R Z o : Nat} {w w1 : World} (h : Drw R w w1) (hZ : w.heap.size ≤ Z) (hR : R ≤ Z) (v : Value) : Drw R w (w1.setCell ⟨Z, o, none⟩ v) :=
  ⟨by simpa using h.size, fun b hb hn => (Below.heap_setCell w1 ⟨Z, o, none⟩ v b (by show b ≠ Z; omega)).trans (h.block b hb hn), h.low.setCell hR v⟩
theorem ResBox.fin {w w1 : World} {R : Nat} (h : ResBox w w1 R) (u v : Value) : Drw R w ((w1.setCell ⟨w.heap.size, 0, none⟩ u).setCell ⟨w.heap.size, 1, none⟩ v) :=
  (h.drw.far (Nat.le_refl _) (Nat.le_of_lt h.lt) u).far (Nat.le_refl _) (Nat.le_of_lt h.lt) v
theorem ResBox.rd {w w1 : World} {R : Nat} (h : ResBox w w1 R) {a : Option Addr} {cap : Nat} {bs : List Nat} {p : Nat} (hr : Rd w1 R a cap bs p) (u v : Value) : Rd ((w1.setCell ⟨w.heap.size, 0, none⟩ u).setCell ⟨w.heap.size, 1, none⟩ v) R a cap bs p :=
  hr.ofB (B := w.heap.size) h.lt (((Below.refl w.heap.size w1).setCell (p := ⟨w.heap.size, 0, none⟩) (Nat.le_refl _) u).setCell (p := ⟨w.heap.size, 1, none⟩) (Nat.le_refl _) v)
set_option maxRecDepth 100000 in
set_option maxHeartbeats 1000000 in
theorem l1DrawVal_calls (w : World) (R : Nat) (a : Option Addr) (cap : Nat) (bs : List Nat) (p : Nat) (h : Rd w R a cap bs p) :
    Calls Tryd.prog 22 #[.pointer (some ⟨R, 0, none⟩)] w fun e w' => e = .returned (.agg #[.bool (dVal bs p).1.1, .int .i64 (dVal bs p).1.2]) ∧ Rd w' R a cap bs (dVal bs p).2 ∧ Drw R w w' := by
  have hB := ResBox.start w R 24 h.size
  have NX := next_calls (w.alloc (.cells #[.bool false, .int .i64 0] 24)) R a cap bs p (h.of (bA (Below.refl _ _) _))
  have hk := nxt_le h p
  have hk1 := nxt_le h (adv bs p)
  have hk2 := nxt_le h (adv bs (adv bs p))
  unfold dVal
  generalize hke : nxt bs p = k at *
  have HNX := hide NX
  clear NX hke h
  by_cases c1 : k = 255
  · subst c1
    simp only [if_true]
    go_enter Tryd.func22, Tryd.ntmps22
    go_wp2_with fail
    refine (unhide HNX).mono ?_; rintro e w1 ⟨rfl, hr1, hd1⟩
    have hB1 := hB.draw hd1
    clear HNX hd1
    have z0 := hB1.z0; have z1 := hB1.z1; have zf := hB1.zf; have zs := hB1.size
    have HB := hide hB1; have HR := hide hr1
    clear hr1 hB1 hB
    go_wp2
    exact bodyPost_ret (v := .agg #[.bool false, .int .i64 9223372036854775807]) (by simp [results, Tryd.results22, go_sem, z0, z1]) rfl ⟨rfl, (unhide HB).rd (unhide HR) _ _, (unhide HB).fin _ _⟩
  rw [if_neg c1]
  have i1 : ¬ (k : Int) = 255 := by omega
  have i1' : ((k : Int) == 255) = false := by simpa using i1
  by_cases c2 : k = 254
  · subst c2
    simp only [if_true]
    go_enter Tryd.func22, Tryd.ntmps22
    go_wp2_with fail
    refine (unhide HNX).mono ?_; rintro e w1 ⟨rfl, hr1, hd1⟩
    have hB1 := hB.draw hd1
    clear HNX hd1
    have z0 := hB1.z0; have z1 := hB1.z1; have zf := hB1.zf; have zs := hB1.size
    have HB := hide hB1; have HR := hide hr1
    clear hr1 hB1 hB
    go_wp2
    exact bodyPost_ret (v := .agg #[.bool false, .int .i64 (-9223372036854775808)]) (by simp [results, Tryd.results22, go_sem, z0, z1]) rfl ⟨rfl, (unhide HB).rd (unhide HR) _ _, (unhide HB).fin _ _⟩
  rw [if_neg c2]
  have i2 : ¬ (k : Int) = 254 := by omega
  have i2' : ((k : Int) == 254) = false := by simpa using i2
  by_cases c3 : k = 253
  · subst c3
    simp only [if_true]
    go_enter Tryd.func22, Tryd.ntmps22
    go_wp2_with fail
    refine (unhide HNX).mono ?_; rintro e w1 ⟨rfl, hr1, hd1⟩
    have hB1 := hB.draw hd1
    clear HNX hd1
    have z0 := hB1.z0; have z1 := hB1.z1; have zf := hB1.zf; have zs := hB1.size
    have HB := hide hB1; have HR := hide hr1
    clear hr1 hB1 hB
    go_wp2
    exact bodyPost_ret (v := .agg #[.bool true, .int .i64 7]) (by simp [results, Tryd.results22, go_sem, z0, z1]) rfl ⟨rfl, (unhide HB).rd (unhide HR) _ _, (unhide HB).fin _ _⟩
  rw [if_neg c3]
  have i3 : ¬ (k : Int) = 253 := by omega
  have i3' : ((k : Int) == 253) = false := by simpa using i3
  by_cases c4 : k % 7 = 6
  · rw [if_pos c4]
    have i4 : (k : Int) % 7 = 6 := by omega
    have i4' : ((k : Int) % 7 == 6) = true := by simpa using i4
    clear c1 c2 c3 c4 i1 i2 i3
    go_enter Tryd.func22, Tryd.ntmps22
    go_wp2_with fail
    refine (unhide HNX).mono ?_; rintro e w1 ⟨rfl, hr1, hd1⟩
    have hB1 := hB.draw hd1
    clear HNX hd1
    have z0 := hB1.z0; have z1 := hB1.z1; have zf := hB1.zf; have zs := hB1.size
    have HB := hide hB1; have HR := hide hr1
    clear hr1 hB1 hB
    go_wp2
    exact bodyPost_ret (v := .agg #[.bool true, .int .i64 0]) (by simp [results, Tryd.results22, go_sem, z0, z1]) rfl ⟨rfl, (unhide HB).rd (unhide HR) _ _, (unhide HB).fin _ _⟩
  rw [if_neg c4]
  have i4 : ¬ (k : Int) % 7 = 6 := by omega
  have i4' : ((k : Int) % 7 == 6) = false := by simpa using i4
  by_cases c5 : 240 ≤ k
  · rw [if_pos c5]
    have i5 : (240 : Int) ≤ (k : Int) := by omega
    clear c1 c2 c3 c4 c5 i1 i2 i3 i4
    go_enter Tryd.func22, Tryd.ntmps22
    go_wp2_with fail
    refine (unhide HNX).mono ?_; rintro e w1 ⟨rfl, hr1, hd1⟩
    have hB1 := hB.draw hd1
    clear HNX hd1
    have N1 := next_calls w1 R a cap bs _ hr1
    have HN1 := hide N1
    clear hr1 N1
    go_wp2_with fail
    refine (unhide HN1).mono ?_; rintro e w2 ⟨rfl, hr2, hd2⟩
    have hB2 := hB1.draw hd2
    have N2 := next_calls w2 R a cap bs _ hr2
    have HN2 := hide N2
    clear hr2 hd2 hB1 N2 HN1
    go_wp2_with fail
    refine (unhide HN2).mono ?_; rintro e w3 ⟨rfl, hr3, hd3⟩
    have hB3 := hB2.draw hd3
    clear hd3 hB2 HN2
    go_wp2_with fail
    refine (l1NumD_calls _ _).mono ?_; rintro e w4 ⟨rfl, hb4⟩
    have hr4 := hr3.of hb4
    have hB4 := hB3.call hb4
    clear hb4 hr3 hB3
    have z0 := hB4.z0; have z1 := hB4.z1; have zf := hB4.zf; have zs := hB4.size
    have HB := hide hB4; have HR := hide hr4
    clear hr4 hB4 hB
    go_wp2
    exact bodyPost_ret (v := .agg #[.bool false, .int .i64 ((nxt bs (adv bs p) : Int) * 256 + (nxt bs (adv bs (adv bs p)) : Int) - 30000)]) (by simp [results, Tryd.results22, go_sem, z0, z1]) rfl ⟨rfl, (unhide HB).rd (unhide HR) _ _, (unhide HB).fin _ _⟩
  rw [if_neg c5]
  have i5 : ¬ (240 : Int) ≤ (k : Int) := by omega
  clear c1 c2 c3 c4 c5 i1 i2 i3 i4
  go_enter Tryd.func22, Tryd.ntmps22
  go_wp2_with fail
  refine (unhide HNX).mono ?_; rintro e w1 ⟨rfl, hr1, hd1⟩
  have hB1 := hB.draw hd1
  clear HNX hd1
  go_wp2_with fail
  refine (l1NumD_calls ((k : Int) % 7 - 1) w1).mono ?_; rintro e w4 ⟨rfl, hb4⟩
  have hr4 := hr1.of hb4
  have hB4 := hB1.call hb4
  clear hb4 hr1 hB1
  have z0 := hB4.z0; have z1 := hB4.z1; have zf := hB4.zf; have zs := hB4.size
  have HB := hide hB4; have HR := hide hr4
  clear hr4 hB4 hB
  go_wp2
  exact bodyPost_ret (v := .agg #[.bool false, .int .i64 ((k : Int) % 7 - 1)]) (by simp [results, Tryd.results22, go_sem, z0, z1]) rfl ⟨rfl, (unhide HB).rd (unhide HR) _ _, (unhide HB).fin _ _⟩
end Go.Proofs.YtafmlbojmmdcdaaDoor
