import Derived.Test.YtafmlbojmmdcdaaDoorDrawVal
namespace Go.Proofs.YtafmlbojmmdcdaaDoor
open Go Go.RowKit
/-- the box of a result that is an Op -/
structure ResBoxO (w w1 : World) (R : Nat) : Prop where
  lt : R < w.heap.size
  size : w.heap.size < w1.heap.size
  z0 : w1.cell? ⟨w.heap.size, 0, none⟩ = some (.int .i64 0)
  z1 : w1.cell? ⟨w.heap.size, 1, none⟩ = some (.int .i64 0)
  zf : ∀ o, w1.frozen? ⟨w.heap.size, o, none⟩ = false
  drw : Drw R w w1
theorem ResBoxO.start (w : World) (R : Nat) (t : TypeId) (h : R < w.heap.size) : ResBoxO w (w.alloc (.cells #[.int .i64 0, .int .i64 0] t)) R :=
  ⟨h, by simp, by simp [go_sem], by simp [go_sem], fun o => by simp [go_sem], (Drw.refl R w).below (Nat.le_of_lt h) (bA (Below.refl _ _) _)⟩
theorem ResBoxO.draw {w w1 w2 : World} {R : Nat} (h : ResBoxO w w1 R) (d : Drw R w1 w2) : ResBoxO w w2 R :=
  ⟨h.lt, Nat.lt_of_lt_of_le h.size d.size, (d.cell 0 h.size (by have := h.lt; omega)).trans h.z0, (d.cell 1 h.size (by have := h.lt; omega)).trans h.z1, fun o => (d.frozen o h.size (by have := h.lt; omega)).trans (h.zf o), h.drw.trans d⟩
theorem ResBoxO.call {w w1 w2 : World} {R : Nat} (h : ResBoxO w w1 R) (b : Below w1.heap.size w1 w2) : ResBoxO w w2 R :=
  h.draw ((Drw.refl R w1).below (by have := h.lt; have := h.size; omega) b)
theorem ResBoxO.fin {w w1 : World} {R : Nat} (h : ResBoxO w w1 R) (u v : Value) : Drw R w ((w1.setCell ⟨w.heap.size, 0, none⟩ u).setCell ⟨w.heap.size, 1, none⟩ v) :=
  (h.drw.far (Nat.le_refl _) (Nat.le_of_lt h.lt) u).far (Nat.le_refl _) (Nat.le_of_lt h.lt) v
theorem ResBoxO.rd {w w1 : World} {R : Nat} (h : ResBoxO w w1 R) {a : Option Addr} {cap : Nat} {bs : List Nat} {p : Nat} (hr : Rd w1 R a cap bs p) (u v : Value) : Rd ((w1.setCell ⟨w.heap.size, 0, none⟩ u).setCell ⟨w.heap.size, 1, none⟩ v) R a cap bs p :=
  hr.ofB (B := w.heap.size) h.lt (((Below.refl w.heap.size w1).setCell (p := ⟨w.heap.size, 0, none⟩) (Nat.le_refl _) u).setCell (p := ⟨w.heap.size, 1, none⟩) (Nat.le_refl _) v)
set_option maxRecDepth 100000 in
set_option maxHeartbeats 1000000 in
theorem l1DrawLeaf_calls (w : World) (R : Nat) (a : Option Addr) (cap : Nat) (bs : List Nat) (p W : Nat) (h : Rd w R a cap bs p) (hW : 1 ≤ W) (hW2 : W ≤ 1000) :
    Calls Tryd.prog 45 #[.pointer (some ⟨R, 0, none⟩), .int .i64 (W : Int)] w fun e w' => (∃ k n : Int, e = .returned (.agg #[.int .i64 k, .int .i64 n])) ∧ (∃ q, Rd w' R a cap bs q) ∧ Drw R w w' := by
  have hB := ResBoxO.start w R 39 h.size
  have NX := next_calls (w.alloc (.cells #[.int .i64 0, .int .i64 0] 39)) R a cap bs p (h.of (bA (Below.refl _ _) _))
  have hk := nxt_le h p
  generalize hke : nxt bs p = k at *
  have HNX := hide NX
  clear NX hke h
  by_cases c1 : k % 4 = 3
  · have i1 : ((k : Int) % 4 == 3) = true := by simp; omega
    clear c1
    go_enter Tryd.func45, Tryd.ntmps45
    go_wp2_with fail
    refine (unhide HNX).mono ?_; rintro e w1 ⟨rfl, hr1, hd1⟩
    have hB1 := hB.draw hd1
    have DV := hide (l1DrawVal_calls w1 R a cap bs _ hr1)
    clear HNX hd1 hr1 hB
    generalize dVal bs (adv bs p) = d at *
    obtain ⟨⟨vb, vn⟩, q⟩ := d
    go_wp2_with fail
    refine (unhide DV).mono ?_; rintro e w2 ⟨rfl, hr2, hd2⟩
    have hB2 := (hB1.draw hd2).call (bA (Below.refl w2.heap.size w2) (.cells #[.bool vb, .int .i64 vn] 24))
    have HR := hide (hr2.of (bA (Below.refl w2.heap.size w2) (.cells #[.bool vb, .int .i64 vn] 24)))
    clear DV hr2 hd2 hB1
    have z0 := hB2.z0; have z1 := hB2.z1; have zf := hB2.zf; have zs := hB2.size
    have HB := hide hB2
    clear hB2
    cases vb
    · go_wp2
      exact bodyPost_ret (v := .agg #[.int .i64 1, .int .i64 vn]) (by simp [results, Tryd.results45, go_sem, z0, z1]) rfl ⟨⟨_, _, rfl⟩, ⟨_, (unhide HB).rd (unhide HR) _ _⟩, (unhide HB).fin _ _⟩
    · go_wp2
      exact bodyPost_ret (v := .agg #[.int .i64 2, .int .i64 0]) (by simp [results, Tryd.results45, go_sem, z0, z1]) rfl ⟨⟨_, _, rfl⟩, ⟨_, (unhide HB).rd (unhide HR) _ _⟩, (unhide HB).fin _ _⟩
  · have i1 : ((k : Int) % 4 == 3) = false := by simp; omega
    clear c1
    have i2 : ¬ (W : Int) ≤ 0 := by omega
    obtain ⟨j, hj⟩ : ∃ j, j = k / 4 % W := ⟨_, rfl⟩
    have i3 : (k : Int) / 4 % (W : Int) = (j : Int) := by rw [hj]; norm_cast
    have i4 : ¬ (W : Int) = 0 := by omega
    have i5 : ((W : Int) == 0) = false := by simp; omega
    go_enter Tryd.func45, Tryd.ntmps45
    go_wp2_with fail
    refine (unhide HNX).mono ?_; rintro e w1 ⟨rfl, hr1, hd1⟩
    have hB1 := hB.draw hd1
    clear HNX hd1
    have z0 := hB1.z0; have z1 := hB1.z1; have zf := hB1.zf; have zs := hB1.size
    have HB := hide hB1; have HR := hide hr1
    clear hr1 hB1 hB hj
    go_wp2
    exact bodyPost_ret (v := .agg #[.int .i64 3, .int .i64 (j : Int)]) (by simp [results, Tryd.results45, go_sem, z0, z1]) rfl ⟨⟨_, _, rfl⟩, ⟨_, (unhide HB).rd (unhide HR) _ _⟩, (unhide HB).fin _ _⟩
end Go.Proofs.YtafmlbojmmdcdaaDoor
