import Derived.Test.YtkdeilhkobcglaaDoorBase
import Derived.Test.YtkdeilhkobcglaaDoorExMath
import Derived.OwnWalk
import Derived.Deep.RegionHeld3
import Derived.Deep.DeepCutAuto
namespace Go.Proofs.YtkdeilhkobcglaaDoor
open Go Go.RowKit

theorem toOp_calls (b : Int) (n : Int) (w : World) :
    Calls Tryd.prog 97 #[.agg #[.int .i64 b, .int .i64 n]] w fun e w' => e = .returned (.agg #[.int .i64 b, .int .i64 n]) ∧ Below w.heap.size w w' := by
  go_enter Tryd.func97, Tryd.ntmps97
  go_wp2
  exact bodyPost_ret (v := .agg #[.int .i64 b, .int .i64 n]) (by simp [results, Tryd.results97, go_sem]) rfl ⟨rfl, bA (bA (bA (Below.refl _ _) _) _) _⟩

theorem eqOp_calls (b n : Int) (w : World) :
    Calls Tryd.prog 103 #[.agg #[.int .i64 b, .int .i64 n], .agg #[.int .i64 b, .int .i64 n]] w fun e w' => e = .returned (.bool true) ∧ Below w.heap.size w w' := by
  have hb : (b != b) = false := by simp
  have hn : (n != n) = false := by simp
  go_enter Tryd.func103, Tryd.ntmps103
  go_wp2
  go_ret
  exact ⟨by simp, bA (bA (Below.refl _ _) _) _⟩
end Go.Proofs.YtkdeilhkobcglaaDoor
/-
  ROWS OF VALS IN MEMORY, of no program. A Val is a pair: is it NULL, its number; two cells.
-/
namespace Go.Proofs.YtkdeilhkobcglaaDoor
open Go Go.RowKit

/-- the cells from ⟨g, off⟩ on hold xs, two cells each -/
def OpsAt (w : World) (g off : Nat) (xs : List O2) : Prop := ∀ i x, xs[i]? = some x → w.cell? ⟨g, off + i * 2, none⟩ = some (.int .i64 x.1) ∧ w.cell? ⟨g, off + i * 2 + 1, none⟩ = some (.int .i64 x.2)
/-- v is a slice that reads as xs -/
def IsOps (w : World) (v : Value) (xs : List O2) : Prop :=
  (xs = [] ∧ ∃ a cap, v = .slice a 0 cap) ∨ ∃ g off cap, v = .slice (some ⟨g, off, none⟩) xs.length cap ∧ xs.length ≤ cap ∧ g < w.heap.size ∧ OpsAt w g off xs

theorem OpsAt.of {w w1 : World} {g off : Nat} {xs : List O2} (h : OpsAt w g off xs) (hg : g < w.heap.size) (hb : Below w.heap.size w w1) : OpsAt w1 g off xs := fun i x hx =>
  ⟨(hb.cell (p := ⟨g, off + i * 2, none⟩) hg).trans (h i x hx).1, (hb.cell (p := ⟨g, off + i * 2 + 1, none⟩) hg).trans (h i x hx).2⟩
theorem IsOps.of {w w1 : World} {v : Value} {xs : List O2} (h : IsOps w v xs) (hb : Below w.heap.size w w1) : IsOps w1 v xs := by
  rcases h with h | ⟨g, off, cap, h1, h2, h3, h4⟩
  · exact Or.inl h
  · exact Or.inr ⟨g, off, cap, h1, h2, Nat.lt_of_lt_of_le h3 hb.size, h4.of h3 hb⟩
theorem OpsAt.tail {w : World} {g off : Nat} {x : O2} {xs : List O2} (h : OpsAt w g off (x :: xs)) : OpsAt w g (off + 2) xs := fun i y hy => by
  have := h (i + 1) y (by simpa using hy)
  rw [show off + 2 + i * 2 = off + (i + 1) * 2 from by omega]
  exact this
theorem OpsAt.at {w : World} {g off : Nat} {xs : List O2} (h : OpsAt w g off xs) (i : Nat) (hi : i < xs.length) : w.cell? ⟨g, off + i * 2, none⟩ = some (.int .i64 xs[i].1) ∧ w.cell? ⟨g, off + i * 2 + 1, none⟩ = some (.int .i64 xs[i].2) :=
  h i xs[i] (by simp [hi])

/-- A ROW IN THE MAKING: block g is the call's own, of n places; the first ones hold xs -/
structure OwnOps (w : World) (g n : Nat) (xs : List O2) : Prop where
  size : g < w.heap.size
  frz : ∀ o, w.frozen? ⟨g, o, none⟩ = false
  all : ∀ o, o < n * 2 → ∃ v, w.cell? ⟨g, o, none⟩ = some v
  held : OpsAt w g 0 xs

theorem OwnOps.of {w w1 : World} {g n : Nat} {xs : List O2} (h : OwnOps w g n xs) (hb : Below w.heap.size w w1) : OwnOps w1 g n xs :=
  ⟨Nat.lt_of_lt_of_le h.size hb.size, fun o => (hb.frozen (p := ⟨g, o, none⟩) h.size).trans (h.frz o), fun o ho => by
    obtain ⟨v, hv⟩ := h.all o ho
    exact ⟨v, (hb.cell (p := ⟨g, o, none⟩) h.size).trans hv⟩, h.held.of h.size hb⟩

theorem frozen_setCellO (w : World) (p a : Addr) (v : Value) : (w.setCell p v).frozen? a = w.frozen? a := by simp [go_sem]

theorem setCell_thereO {w : World} {g o o' : Nat} {v u : Value} (h : w.cell? ⟨g, o, none⟩ = some u) : ∃ z, (w.setCell ⟨g, o', none⟩ v).cell? ⟨g, o, none⟩ = some z := by
  by_cases e : o' = o
  · subst e; exact ⟨v, World.cell?_setCell_same _ _ _ h⟩
  · exact ⟨u, by rw [World.cell?_setCell_other _ _ _ _ (by intro he; injection he; contradiction)]; exact h⟩

theorem setCell_otherO {w : World} {g o o' : Nat} {v : Value} (h : o' ≠ o) : (w.setCell ⟨g, o', none⟩ v).cell? ⟨g, o, none⟩ = w.cell? ⟨g, o, none⟩ :=
  World.cell?_setCell_other _ _ _ _ (by intro he; injection he; contradiction)

/-- one Val more -/
theorem OwnOps.push {w : World} {g n : Nat} {xs : List O2} (h : OwnOps w g n xs) (hn : xs.length < n) (b : Int) (k : Int) :
    OwnOps ((w.setCell ⟨g, xs.length * 2, none⟩ (.int .i64 b)).setCell ⟨g, xs.length * 2 + 1, none⟩ (.int .i64 k)) g n (xs ++ [(b, k)]) := by
  refine ⟨by simpa using h.size, fun o => by rw [frozen_setCellO, frozen_setCellO]; exact h.frz o, fun o ho => ?_, fun i x hx => ?_⟩
  · obtain ⟨v, hv⟩ := h.all o ho
    obtain ⟨z, hz⟩ := setCell_thereO (o' := xs.length * 2) (v := .int .i64 b) hv
    exact setCell_thereO hz
  · simp only [Nat.zero_add]
    by_cases hi : i < xs.length
    · rw [List.getElem?_append_left hi] at hx
      have := h.held i x hx
      simp only [Nat.zero_add] at this
      refine ⟨?_, ?_⟩
      · rw [setCell_otherO (by omega), setCell_otherO (by omega)]; exact this.1
      · rw [setCell_otherO (by omega), setCell_otherO (by omega)]; exact this.2
    · obtain rfl : i = xs.length := by
        have := (List.getElem?_eq_some_iff.1 hx).1
        simp at this; omega
      simp at hx
      subst hx
      obtain ⟨v0, h0⟩ := h.all (xs.length * 2) (by omega)
      obtain ⟨v1, h1⟩ := h.all (xs.length * 2 + 1) (by omega)
      obtain ⟨z, hz⟩ := setCell_thereO (o' := xs.length * 2) (v := .int .i64 b) h1
      refine ⟨?_, World.cell?_setCell_same _ _ _ hz⟩
      rw [setCell_otherO (by omega)]
      exact World.cell?_setCell_same _ _ _ h0

/-- a row that is whole is a slice's -/
theorem OwnOps.isOps {w : World} {g : Nat} {xs : List O2} (h : OwnOps w g xs.length xs) : IsOps w (.slice (some ⟨g, 0, none⟩) xs.length xs.length) xs := Or.inr ⟨g, 0, _, rfl, Nat.le_refl _, h.size, h.held⟩

/-- what make lays -/
theorem OwnOps.made (w : World) (n : Nat) (C : Array Value) (t : TypeId) (hC : C.size = n * 2) : OwnOps (w.alloc (.cells C t)) w.heap.size n [] :=
  ⟨by simp, fun o => by simp [go_sem], fun o ho => ⟨C[o]'(by omega), by rw [World.cell?_alloc_at C t _ o rfl]; simp⟩, fun i x hx => by simp at hx⟩
theorem take_snocO {α : Type} (xs : List α) (k : Nat) (h : k < xs.length) : xs.take (k + 1) = xs.take k ++ [xs[k]] := by
  rw [List.take_succ_eq_append_getElem h]
/-- one Val more, by the index -/
theorem OwnOps.next {w : World} {g n k : Nat} {xs : List O2} (h : OwnOps w g n (xs.take k)) (hk : k < xs.length) (hn : k < n) :
    OwnOps ((w.setCell ⟨g, k * 2, none⟩ (.int .i64 xs[k].1)).setCell ⟨g, k * 2 + 1, none⟩ (.int .i64 xs[k].2)) g n (xs.take (k + 1)) := by
  have hl : (xs.take k).length = k := by simp; omega
  have := h.push (by omega) xs[k].1 xs[k].2
  rw [hl] at this
  rw [take_snocO xs k hk]
  exact this
end Go.Proofs.YtkdeilhkobcglaaDoor
namespace Go.Proofs.YtkdeilhkobcglaaDoor
open Go Go.RowKit

/-- make([]impl.Op, n) -/
theorem make_ops (n : Nat) (hn : n ≤ 1048576) (w : World) :
    (Instr.makeSlice 90 (.int .i64 (n : Int)) (.int .i64 (n : Int))).run Tryd.prog w = .ok (.slice (some ⟨w.heap.size, 0, none⟩) n n) (w.alloc (.cells (madeCells #[.int .i64 0, .int .i64 0] (n * 2)) 146)) := by
  obtain ⟨i, hi, hz⟩ := Option.map_eq_some_iff.1 (show (Tryd.prog.info? 146).map (fun i => (i.zero, i.size, i.bytes)) = some (some (.agg #[.int .i64 0, .int .i64 0]), 2, 16) by kernel_rfl)
  simp only [Prod.mk.injEq] at hz
  have := run_make (P := Tryd.prog) w 90 146 i _ Tryd.underlying90 hi hz.1 .i64 .i64 (n : Int) (n : Int) (by omega) (by omega) (by rw [hz.2.2]; omega) (by omega)
  rw [hz.2.1] at this
  simpa [Value.cells] using this

theorem make_ops0 (w : World) : (Instr.makeSlice 90 (.int .i64 0) (.int .i64 0)).run Tryd.prog w = .ok (.slice (some ⟨w.heap.size, 0, none⟩) 0 0) (w.alloc (.cells #[] 146)) := by
  have := make_ops 0 (by omega) w
  rw [show madeCells #[.int .i64 0, .int .i64 0] (0 * 2) = #[] from Array.eq_empty_of_size_eq_zero (by simp [size_madeCells])] at this
  simpa using this

set_option maxHeartbeats 1000000 in
theorem toOpS_calls (v : Value) (xs : List O2) (w : World) (hv : IsOps w v xs) (hn : xs.length ≤ 1048576) :
    Calls Tryd.prog 78 #[v] w fun e w' => ∃ g, e = .returned (.slice (some ⟨g, 0, none⟩) xs.length xs.length) ∧ w.heap.size ≤ g ∧ OwnOps w' g xs.length xs ∧ Below w.heap.size w w' := by
  rcases hv with ⟨rfl, a, cap, rfl⟩ | ⟨g, off, cap, rfl, hcap, hg, hr⟩
  · have hmk := make_ops0
    clear hn
    go_enter Tryd.func78, Tryd.ntmps78
    go_wp2
    go_loopw [4] (fun i wr => i = .int .i64 0 ∧ OwnOps wr w.heap.size 0 [] ∧ Below w.heap.size w wr) (fun _ _ => 0)
    case atStart => exact ⟨rfl, OwnOps.made w 0 #[] _ rfl, bA (Below.refl _ _) _⟩
    case round =>
      obtain ⟨rfl, ho, hb⟩ := hrel
      go_wp2
      go_ret
      exact ⟨_, rfl, Nat.le_refl _, ho, hb⟩
  · have hmk := make_ops xs.length hn
    have hO : Hid (OwnOps (w.alloc (.cells (madeCells #[.int .i64 0, .int .i64 0] (xs.length * 2)) 146)) w.heap.size xs.length []) := OwnOps.made w _ _ _ (by simp [size_madeCells])
    go_enter Tryd.func78, Tryd.ntmps78
    go_wp2
    go_loopw [4] (fun i wr => ∃ k : Nat, k ≤ xs.length ∧ i = .int .i64 k ∧ OwnOps wr w.heap.size xs.length (xs.take k) ∧ Below w.heap.size w wr) (fun i _ => xs.length - (intOf i).toNat)
    case atStart => exact ⟨0, Nat.zero_le _, rfl, by simpa using hO.out, bA (Below.refl _ _) _⟩
    case round =>
      clear hO hmk
      obtain ⟨k, hk, rfl, ho, hb⟩ := hrel
      by_cases hlt : k < xs.length
      · obtain ⟨e0, e1⟩ := (hr.of hg hb).at k hlt
        go_wp2_with fail
        refine (toOp_calls _ _ _).mono ?_; rintro e w1 ⟨rfl, hb1⟩
        have d1 := bT hb hb1
        have ho1 := ho.of hb1
        have hN : Hid (OwnOps ((w1.setCell ⟨w.heap.size, k * 2, none⟩ (.int .i64 xs[k].1)).setCell ⟨w.heap.size, k * 2 + 1, none⟩ (.int .i64 xs[k].2)) w.heap.size xs.length (xs.take (k + 1))) := ho1.next hlt hlt
        obtain ⟨u0, hu0⟩ := ho1.all (k * 2) (by omega)
        obtain ⟨u1, hu1⟩ := ho1.all (k * 2 + 1) (by omega)
        have hf := ho1.frz
        clear ho ho1 hb1
        go_wp2
        go_roundw
        case rel => exact ⟨k + 1, by omega, by go_num, hN.out, (d1.setCell (Nat.le_refl _) _).setCell (Nat.le_refl _) _⟩
        case measure => simp [intOf]; omega
      · obtain rfl : k = xs.length := by omega
        rw [List.take_length] at ho
        go_wp2
        go_ret
        exact ⟨_, rfl, Nat.le_refl _, ho, hb⟩

theorem szOpS_calls (v : Value) (xs : List O2) (left : Int) (w : World) (hv : IsOps w v xs) (hl : xs.length ≤ maxLen) (h0 : 0 ≤ left) (h1 : left ≤ 1048576) :
    Calls Tryd.prog 72 #[v, .int .i64 left] w fun e w' => e = .returned (.int .i64 (if left < xs.length then -1 else left - xs.length)) ∧ w' = w := by
  unfold maxLen at hl
  obtain ⟨a, cap, rfl⟩ : ∃ a cap, v = .slice a xs.length cap := by
    rcases hv with ⟨rfl, a, cap, rfl⟩ | ⟨g, off, cap, rfl, _⟩
    · exact ⟨a, cap, rfl⟩
    · exact ⟨_, cap, rfl⟩
  by_cases h : left < xs.length
  · rw [if_pos h]
    go_enter Tryd.func72, Tryd.ntmps72
    go_wp2
    go_ret
    exact ⟨rfl, rfl⟩
  · rw [if_neg h]
    go_enter Tryd.func72, Tryd.ntmps72
    go_wp2
    go_ret
    exact ⟨rfl, rfl⟩
end Go.Proofs.YtkdeilhkobcglaaDoor
namespace Go.Proofs.YtkdeilhkobcglaaDoor
open Go Go.RowKit
set_option maxHeartbeats 1000000 in
theorem eqOpS_calls (xs : List O2) (g off cap g' off' cap' : Nat) (w : World) (hg : g < w.heap.size) (hg' : g' < w.heap.size) (hx : OpsAt w g off xs) (hy : OpsAt w g' off' xs) (b1 : xs.length ≤ 1048576) :
    Calls Tryd.prog 86 #[.slice (some ⟨g, off, none⟩) xs.length cap, .slice (some ⟨g', off', none⟩) xs.length cap'] w fun e w' => e = .returned (.bool true) ∧ Below w.heap.size w w' := by
  have e0 : ((xs.length : Int) != (xs.length : Int)) = false := by simp
  go_enter Tryd.func86, Tryd.ntmps86
  go_wp2
  go_loopw [5] (fun c wr => ∃ k : Nat, k ≤ xs.length ∧ c = .int .i64 k ∧ Below w.heap.size w wr) (fun c _ => xs.length - (intOf c).toNat)
  case atStart => exact ⟨0, Nat.zero_le _, rfl, Below.refl _ _⟩
  case round =>
    obtain ⟨k, hk1, rfl, hb⟩ := hrel
    by_cases l1 : k < xs.length
    · obtain ⟨x0, x1⟩ := (hx.of hg hb).at k l1
      obtain ⟨y0, y1⟩ := (hy.of hg' hb).at k l1
      have j1 : (k : Int) < (xs.length : Int) := by omega
      have q1 : g < wr.heap.size := Nat.lt_of_lt_of_le hg hb.size
      have q2 : g' < wr.heap.size := Nat.lt_of_lt_of_le hg' hb.size
      go_upto_region 6 with fail
      have h1 := Below.refl wr.heap.size wr
      have h2 := h1
      go_region_held3 (Std wr) (repeat (first | with_reducible assumption | with_reducible exact Std.refl _ | with_reducible refine Std.drew ?_ | with_reducible refine Std.alloc ?_ _ | with_reducible refine Std.setCell ?_ ?_ _ | with_reducible refine Std.call ?_ (by with_reducible assumption) | (simp <;> omega) | omega)) (first | (go_at_call 103; refine (eqOp_calls _ _ _).mono ?_; rintro e w1 ⟨rfl, hb⟩; (first | have n3 := bT h2 hb | have n3 := bT (bA h2 _) hb | have n3 := bT (Below.drew h2) hb | have n3 := bT (Below.drew (bA h2 _)) hb | have n3 := bT (bA (Below.drew h2) _) hb); (first | have n2 := bT h1 hb | have n2 := bT (bA h1 _) hb | have n2 := bT (Below.drew h1) hb | have n2 := bT (Below.drew (bA h1 _)) hb | have n2 := bT (bA (Below.drew h1) _) hb); obtain ⟨c1, f1⟩ := bcell hb; obtain ⟨c2, f2⟩ := bcell n2; obtain ⟨c3, f3⟩ := bcell n3; have hs := hb.size; (try simp at hs); clear h1 h2; have h1 := hb; have h2 := n2; clear n2 hb))
      have d2 := bT hb h2
      go_wp2
      go_roundw
      case rel => exact ⟨k + 1, by omega, by go_num, d2⟩
      case measure => simp [intOf]; omega
    · go_wp2
      go_ret
      exact ⟨rfl, hb⟩
end Go.Proofs.YtkdeilhkobcglaaDoor
