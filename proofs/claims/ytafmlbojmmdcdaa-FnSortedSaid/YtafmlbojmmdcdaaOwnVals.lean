/-
  A ROW THAT IS APPENDED TO (plain seats: the door seats have flatV in RunMath and OwnS in RunEx).
-/
import Derived.Test.YtafmlbojmmdcdaaCopyRow
import Derived.Deep.AppendLies
import Derived.Deep.RegionHeld3
import Derived.Deep.DeepCutAuto
namespace Go.Proofs.Ytafmlbojmmdcdaa
open Go Go.RowKit
/-- the cells of a list of Vals -/
def flatV (xs : List V2) : List Value := xs.flatMap fun x => [.bool x.1, .int .i64 x.2]
theorem flatV_length : ∀ (xs : List V2), (flatV xs).length = xs.length * 2
  | [] => rfl
  | x :: xs => by
    have := flatV_length xs
    simp only [flatV, List.flatMap_cons, List.length_append, List.length_cons, List.length_nil] at this ⊢
    omega
theorem flatV_append (a b : List V2) : flatV (a ++ b) = flatV a ++ flatV b := by simp [flatV]
theorem flatV_take : ∀ (xs : List V2) (k : Nat), flatV (xs.take k) = (flatV xs).take (k * 2)
  | [], k => by simp [flatV]
  | x :: xs, 0 => by simp [flatV]
  | x :: xs, k + 1 => by
    have := flatV_take xs k
    simp only [flatV, List.take_succ_cons, List.flatMap_cons] at this ⊢
    rw [this, show (k + 1) * 2 = k * 2 + 2 from by omega]
    rfl
theorem flatV_at : ∀ (xs : List V2) (i : Nat) (x : V2), xs[i]? = some x → (flatV xs)[i * 2]? = some (.bool x.1) ∧ (flatV xs)[i * 2 + 1]? = some (.int .i64 x.2)
  | [], i, x, h => by simp at h
  | y :: xs, 0, x, h => by
    simp at h
    subst h
    exact ⟨rfl, rfl⟩
  | y :: xs, i + 1, x, h => by
    have := flatV_at xs i x (by simpa using h)
    simp only [flatV, List.flatMap_cons] at this ⊢
    rw [show (i + 1) * 2 = i * 2 + 2 from by omega, show i * 2 + 2 + 1 = i * 2 + 1 + 2 from by omega]
    exact this
/-- the stack, a slice of the call's own -/
def OwnS (w : World) (B g cap : Nat) (bs : List V2) : Prop := w.ownsRow B 40 2 (.slice (some ⟨g, 0, none⟩) bs.length cap) bs.length (flatV bs)
theorem OwnS.lt {w : World} {B g cap : Nat} {bs : List V2} (h : OwnS w B g cap bs) : g < w.heap.size ∧ B ≤ g ∧ bs.length ≤ cap ∧ cap ≤ maxLen := by
  rcases h.2 with ⟨h1, _⟩ | ⟨g', cap', cur, h1, h2, h3, h4, h5, _⟩
  · simp at h1
  · simp only [Value.slice.injEq, Option.some.injEq, Addr.mk.injEq, and_true, true_and] at h1
    obtain ⟨rfl, rfl⟩ := h1
    exact ⟨(Array.getElem?_eq_some_iff.1 h3).1, h2, h4, h5⟩
theorem OwnS.of {w w1 : World} {B g cap : Nat} {bs : List V2} (h : OwnS w B g cap bs) (hb : Below w.heap.size w w1) : OwnS w1 B g cap bs := by
  have hl := h.lt.1
  refine ⟨h.1, ?_⟩
  rcases h.2 with h1 | ⟨g', cap', cur, h1, h2, h3, h4⟩
  · exact Or.inl h1
  · have e : g' = g := by
      simp only [Value.slice.injEq, Option.some.injEq, Addr.mk.injEq, and_true, true_and] at h1
      exact h1.1.symm
    exact Or.inr ⟨g', cap', cur, h1, h2, by rw [hb.block g' (by rw [e]; exact hl)]; exact h3, h4⟩
/-- the first r of them -/
theorem OwnS.cut {w : World} {B g cap : Nat} {bs : List V2} (h : OwnS w B g cap bs) (r : Nat) (hr : r ≤ bs.length) : w.ownsRow B 40 2 (.slice (some ⟨g, 0, none⟩) r cap) r (flatV (bs.take r)) := by
  refine ⟨by rw [flatV_length]; simp; omega, ?_⟩
  rcases h.2 with ⟨h1, _⟩ | ⟨g', cap', cur, h1, h2, h3, h4, h5, h6, h7⟩
  · simp at h1
  · simp only [Value.slice.injEq, Option.some.injEq, Addr.mk.injEq, and_true, true_and] at h1
    obtain ⟨rfl, rfl⟩ := h1
    refine Or.inr ⟨g, cap, cur, rfl, h2, h3, by omega, h5, h6, ?_⟩
    rw [flatV_take, ← h7, List.take_take, Nat.min_eq_left (by omega)]
theorem OwnS.row {w : World} {B g cap : Nat} {bs : List V2} (h : OwnS w B g cap bs) : RowAt w g 0 bs := by
  rcases h.2 with ⟨h1, _⟩ | ⟨g', cap', cur, h1, h2, h3, h4, h5, h6, h7⟩
  · simp at h1
  · simp only [Value.slice.injEq, Option.some.injEq, Addr.mk.injEq, and_true, true_and] at h1
    obtain ⟨rfl, rfl⟩ := h1
    intro i x hx
    have hi := (List.getElem?_eq_some_iff.1 hx).1
    obtain ⟨e0, e1⟩ := flatV_at bs i x hx
    rw [← h7] at e0 e1
    rw [List.getElem?_take, if_pos (by omega)] at e0 e1
    simp only [Nat.zero_add, World.cell?, h3]
    exact ⟨by simpa using e0, by simpa using e1⟩

theorem OwnS.ownRow {w : World} {B g cap : Nat} {bs : List V2} (h : OwnS w B g cap bs) : OwnRow w g bs.length bs := by
  have hr := h.row
  have hlt := h.lt
  rcases h.2 with ⟨h1, _⟩ | ⟨g', cap', cur, h1, h2, h3, h4, h5, h6, h7⟩
  · simp at h1
  · simp only [Value.slice.injEq, Option.some.injEq, Addr.mk.injEq, and_true, true_and] at h1
    obtain ⟨rfl, rfl⟩ := h1
    refine ⟨hlt.1, fun o => ?_, fun o ho => ?_, hr⟩
    · simp [World.frozen?, h3]
    · refine ⟨cur[o]'(by omega), ?_⟩
      simp only [World.cell?, h3]
      simp
end Go.Proofs.Ytafmlbojmmdcdaa
