/-
  OPS THAT ARE APPENDED TO.
-/
import Derived.Test.YtafmlbojmmdcdaaDoorDrawRow
import Derived.Test.YtafmlbojmmdcdaaDoorOpKit
namespace Go.Proofs.YtafmlbojmmdcdaaDoor
open Go Go.RowKit
def flatO (xs : List O2) : List Value := xs.flatMap fun x => [.int .i64 x.1, .int .i64 x.2]
theorem flatO_length : ∀ (xs : List O2), (flatO xs).length = xs.length * 2
  | [] => rfl
  | x :: xs => by
    have := flatO_length xs
    simp only [flatO, List.flatMap_cons, List.length_append, List.length_cons, List.length_nil] at this ⊢
    omega
theorem flatO_append (a b : List O2) : flatO (a ++ b) = flatO a ++ flatO b := by simp [flatO]
theorem flatO_at : ∀ (xs : List O2) (i : Nat) (x : O2), xs[i]? = some x → (flatO xs)[i * 2]? = some (.int .i64 x.1) ∧ (flatO xs)[i * 2 + 1]? = some (.int .i64 x.2)
  | [], i, x, h => by simp at h
  | y :: xs, 0, x, h => by
    simp at h
    subst h
    exact ⟨rfl, rfl⟩
  | y :: xs, i + 1, x, h => by
    have := flatO_at xs i x (by simpa using h)
    simp only [flatO, List.flatMap_cons] at this ⊢
    rw [show (i + 1) * 2 = i * 2 + 2 from by omega, show i * 2 + 2 + 1 = i * 2 + 1 + 2 from by omega]
    exact this
theorem one_flatO (xs : List O2) : ∀ u ∈ flatO xs, u.oneCell' = true := fun u hu => by
  obtain ⟨x, _, hx⟩ := List.mem_flatMap.1 hu
  simp only [List.mem_cons, List.not_mem_nil, or_false] at hx
  rcases hx with rfl | rfl <;> rfl
def OwnO (w : World) (B g cap : Nat) (bs : List O2) : Prop := w.ownsRow B 39 2 (.slice (some ⟨g, 0, none⟩) bs.length cap) bs.length (flatO bs)
theorem OwnO.lt {w : World} {B g cap : Nat} {bs : List O2} (h : OwnO w B g cap bs) : g < w.heap.size ∧ B ≤ g ∧ bs.length ≤ cap ∧ cap ≤ maxLen := by
  rcases h.2 with ⟨h1, _⟩ | ⟨g', cap', cur, h1, h2, h3, h4, h5, _⟩
  · simp at h1
  · simp only [Value.slice.injEq, Option.some.injEq, Addr.mk.injEq, and_true, true_and] at h1
    obtain ⟨rfl, rfl⟩ := h1
    exact ⟨(Array.getElem?_eq_some_iff.1 h3).1, h2, h4, h5⟩
theorem OwnO.blk {w w1 : World} {B g cap : Nat} {bs : List O2} (h : OwnO w B g cap bs) (hb : w1.heap[g]? = w.heap[g]?) : OwnO w1 B g cap bs := by
  refine ⟨h.1, ?_⟩
  rcases h.2 with h1 | ⟨g', cap', cur, h1, h2, h3, h4⟩
  · exact Or.inl h1
  · have e : g' = g := by
      simp only [Value.slice.injEq, Option.some.injEq, Addr.mk.injEq, and_true, true_and] at h1
      exact h1.1.symm
    exact Or.inr ⟨g', cap', cur, h1, h2, by rw [e, hb, ← e]; exact h3, h4⟩
theorem OwnO.of {w w1 : World} {B g cap : Nat} {bs : List O2} (h : OwnO w B g cap bs) (hb : Below w.heap.size w w1) : OwnO w1 B g cap bs := h.blk (hb.block g h.lt.1)
theorem OwnO.drw {w w1 : World} {B g cap R : Nat} {bs : List O2} (h : OwnO w B g cap bs) (hd : Drw R w w1) (hg : g ≠ R) : OwnO w1 B g cap bs := h.blk (hd.block g h.lt.1 hg)
theorem OwnO.mono {w : World} {B B' g cap : Nat} {bs : List O2} (h : OwnO w B g cap bs) (hB : B' ≤ B) : OwnO w B' g cap bs := by
  refine ⟨h.1, ?_⟩
  rcases h.2 with h1 | ⟨g', cap', cur, h1, h2, h3⟩
  · exact Or.inl h1
  · exact Or.inr ⟨g', cap', cur, h1, Nat.le_trans hB h2, h3⟩
theorem OwnO.news {w : World} {B g cap : Nat} {bs : List O2} (h : OwnO w B g cap bs) : ∀ j u, (flatO bs)[j]? = some u → w.cell? ((⟨g, 0, none⟩ : Addr).add j) = some u := by
  rcases h.2 with ⟨h1, _⟩ | ⟨g', cap', cur, h1, h2, h3, h4, h5, h6, h7⟩
  · simp at h1
  · simp only [Value.slice.injEq, Option.some.injEq, Addr.mk.injEq, and_true, true_and] at h1
    obtain ⟨rfl, rfl⟩ := h1
    intro j u hu
    rw [← h7, List.getElem?_take] at hu
    split at hu
    · exact World.news_of_block h3 j u hu
    · simp at hu
theorem OwnO.row {w : World} {B g cap : Nat} {bs : List O2} (h : OwnO w B g cap bs) : OpsAt w g 0 bs := by
  intro i x hx
  obtain ⟨e0, e1⟩ := flatO_at bs i x hx
  have n0 := h.news _ _ e0
  have n1 := h.news _ _ e1
  rw [Addr.add_lit] at n0 n1
  rw [Nat.zero_add] at n0 n1 ⊢
  exact ⟨n0, n1⟩
theorem OwnO.made (w : World) (B : Nat) (k n : Int) (hB : B ≤ w.heap.size) : OwnO (w.alloc (.cells #[.int .i64 k, .int .i64 n] 39)) B w.heap.size 1 [(k, n)] :=
  ⟨rfl, Or.inr ⟨w.heap.size, 1, #[.int .i64 k, .int .i64 n], rfl, hB, (MapKept.heap_alloc w _).1, Nat.le_refl _, by unfold maxLen; omega, rfl, rfl⟩⟩
/-- ops that are read from here on -/
structure HasOps (w : World) (B g : Nat) (ops : List O2) : Prop where
  size : g < w.heap.size
  base : B ≤ g
  held : OpsAt w g 0 ops
theorem OwnO.has {w : World} {B g cap : Nat} {bs : List O2} (h : OwnO w B g cap bs) : HasOps w B g bs := ⟨h.lt.1, h.lt.2.1, h.row⟩
theorem HasOps.take {w : World} {B g : Nat} {bs : List O2} (h : HasOps w B g bs) (p : Nat) : HasOps w B g (bs.take p) :=
  ⟨h.size, h.base, fun i x hx => h.held i x (by rw [List.getElem?_take] at hx; split at hx <;> simp_all)⟩
theorem HasOps.set0 {w : World} {B g : Nat} {bs : List O2} (h : HasOps w B g bs) (p : Nat) (hp : p < bs.length) (k : Int) : HasOps (w.setCell ⟨g, p * 2, none⟩ (.int .i64 k)) B g (bs.set p (k, bs[p].2)) := by
  refine ⟨by simpa using h.size, h.base, fun i x hx => ?_⟩
  rw [List.getElem?_set] at hx
  have hb := h.held p bs[p] (by simp [hp])
  rw [Nat.zero_add] at hb
  rw [Nat.zero_add]
  split at hx
  · rename_i e
    subst e
    simp only [Option.some.injEq] at hx
    subst hx
    exact ⟨World.cell?_setCell_same _ _ _ hb.1, by rw [setCell_otherO (by omega)]; exact hb.2⟩
  · rename_i e
    have hx' := h.held i x hx
    rw [Nat.zero_add] at hx'
    exact ⟨by rw [setCell_otherO (by omega)]; exact hx'.1, by rw [setCell_otherO (by omega)]; exact hx'.2⟩
theorem HasOps.set1 {w : World} {B g : Nat} {bs : List O2} (h : HasOps w B g bs) (p : Nat) (hp : p < bs.length) (n : Int) : HasOps (w.setCell ⟨g, p * 2 + 1, none⟩ (.int .i64 n)) B g (bs.set p (bs[p].1, n)) := by
  refine ⟨by simpa using h.size, h.base, fun i x hx => ?_⟩
  rw [List.getElem?_set] at hx
  have hb := h.held p bs[p] (by simp [hp])
  rw [Nat.zero_add] at hb
  rw [Nat.zero_add]
  split at hx
  · rename_i e
    subst e
    simp only [Option.some.injEq] at hx
    subst hx
    exact ⟨by rw [setCell_otherO (by omega)]; exact hb.1, World.cell?_setCell_same _ _ _ hb.2⟩
  · rename_i e
    have hx' := h.held i x hx
    rw [Nat.zero_add] at hx'
    exact ⟨by rw [setCell_otherO (by omega)]; exact hx'.1, by rw [setCell_otherO (by omega)]; exact hx'.2⟩
end Go.Proofs.YtafmlbojmmdcdaaDoor
