/-
  CUTTING A SLICE OF INTS.
-/
import Derived.Test.YtnjnonmpfalfeabDoorOwnIntsA
namespace Go.Proofs.YtnjnonmpfalfeabDoor
open Go Go.RowKit

theorem sliceI_low (ao : Option Addr) (n lc r : Nat) (hr : r ≤ n) (w : World) : (Instr.slice 80 (.slice ao n lc) (some (.int .i64 (r : Int))) none none).run Tryd.prog w = .ok (.slice (if lc = r then ao else ao.map (·.add r)) (n - r) (lc - r)) w := by
  have ht : Tryd.prog.underlying 80 = some (.slice (Tryd.prog.elem 80)) := by kernel_rfl
  have hs : ∀ w, (sizeOf (Tryd.prog.elem 80)).run Tryd.prog w = .ok 1 w := fun _ => by kernel_rfl
  rw [run_slice_l _ _ _ _ _ ht .i64 r (by omega) (by omega), hs]
  simp [Result.andThen, sliced]
theorem sliceI_high (ao : Option Addr) (n lc r : Nat) (hr : r ≤ lc) (w : World) : (Instr.slice 80 (.slice ao n lc) none (some (.int .i64 (r : Int))) none).run Tryd.prog w = .ok (.slice ao r lc) w := by
  have ht : Tryd.prog.underlying 80 = some (.slice (Tryd.prog.elem 80)) := by kernel_rfl
  have hs : ∀ w, (sizeOf (Tryd.prog.elem 80)).run Tryd.prog w = .ok 1 w := fun _ => by kernel_rfl
  rw [run_slice_h _ _ _ _ _ ht .i64 r (by omega) (by omega), hs]
  cases ao with
  | none => simp [Result.andThen, sliced]
  | some a => simp [Result.andThen, sliced, Addr.add]
/-- a row of one's own that is cut -/
theorem own_cut {w : World} {s lc r : Nat} {ao : Option Addr} {L : List Int} (h : w.ownsRow s 3 1 (.slice ao L.length lc) L.length (vInts L)) (hr : r ≤ L.length) : w.ownsRow s 3 1 (.slice ao r lc) r (vInts (L.take r)) := by
  refine ⟨by simp [vInts]; omega, ?_⟩
  rcases h.2 with ⟨h1, h0⟩ | ⟨g', cap', cur, h1, h2, h3, h4, h5, h6, h7⟩
  · simp only [Value.slice.injEq] at h1
    obtain ⟨rfl, _, rfl⟩ := h1
    obtain rfl : r = 0 := by omega
    exact Or.inl ⟨rfl, rfl⟩
  · simp only [Value.slice.injEq, true_and] at h1
    obtain ⟨rfl, rfl⟩ := h1
    refine Or.inr ⟨g', lc, cur, rfl, h2, h3, by omega, h5, h6, ?_⟩
    rw [vInts_take, ← h7, List.take_take, Nat.min_eq_left (by omega), Nat.mul_one]
theorem own_cap {w : World} {s lc : Nat} {ao : Option Addr} {L : List Int} (h : w.ownsRow s 3 1 (.slice ao L.length lc) L.length (vInts L)) : L.length ≤ lc := by
  rcases h.2 with ⟨h1, h0⟩ | ⟨g', cap', cur, h1, h2, h3, h4, h5, h6, h7⟩
  · omega
  · simp only [Value.slice.injEq, true_and] at h1
    obtain ⟨rfl, rfl⟩ := h1
    exact h4
/-- what is left behind a cut can be read -/
theorem own_drop {w : World} {s lc r : Nat} {ao : Option Addr} {L : List Int} (h : w.ownsRow s 3 1 (.slice ao L.length lc) L.length (vInts L)) (_ : r ≤ L.length) :
    L.drop r = [] ∨ ∃ g2 off, (if lc = r then ao else ao.map (·.add r)) = some ⟨g2, off, none⟩ ∧ g2 < w.heap.size ∧ IntsAt w g2 off (L.drop r) := by
  by_cases hl : L.length ≤ r
  · exact Or.inl (List.drop_eq_nil_of_le hl)
  · right
    rcases h.2 with ⟨h1, h0⟩ | ⟨g', cap', cur, h1, h2, h3, h4, h5, h6, h7⟩
    · omega
    · have h' := h
      simp only [Value.slice.injEq, true_and] at h1
      obtain ⟨rfl, rfl⟩ := h1
      refine ⟨g', r, ?_, (Array.getElem?_eq_some_iff.1 h3).1, ?_⟩
      · rw [if_neg (by omega)]; simp [Addr.add]; omega
      · have hrow := OwnI.row (w := w) (B := s) (g := g') (cap := lc) (xs := L) h'
        intro i x hx
        rw [List.getElem?_drop] at hx
        have := hrow (r + i) x hx
        simpa using this
end Go.Proofs.YtnjnonmpfalfeabDoor
