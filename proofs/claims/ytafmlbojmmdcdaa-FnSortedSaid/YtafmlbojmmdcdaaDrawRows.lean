import Derived.Test.YtafmlbojmmdcdaaDrawRow
import Derived.Test.YtafmlbojmmdcdaaL1Row
import Derived.Test.YtafmlbojmmdcdaaISort
namespace Go.Proofs.Ytafmlbojmmdcdaa
open Go Go.RowKit
def dStep (bs : List Nat) (width : Nat) (s : List (List V2) × Nat) : List (List V2) × Nat :=
  if nxt bs s.2 % 4 = 3 ∧ 0 < s.1.length then (s.1 ++ [(s.1.getD (nxt bs s.2 / 4 % s.1.length) []).map clnV], adv bs s.2)
  else (s.1 ++ [(dRowN bs (adv bs s.2) width).1], (dRowN bs (adv bs s.2) width).2)
def dRowsN (bs : List Nat) (p width : Nat) : Nat → List (List V2) × Nat
  | 0 => ([], p)
  | i + 1 => dStep bs width (dRowsN bs p width i)
theorem dStep_length (bs : List Nat) (width : Nat) (s : List (List V2) × Nat) : (dStep bs width s).1.length = s.1.length + 1 := by unfold dStep; split <;> simp
theorem dRowsN_length (bs : List Nat) (p width : Nat) : ∀ n, (dRowsN bs p width n).1.length = n
  | 0 => rfl
  | n + 1 => by rw [dRowsN, dStep_length, dRowsN_length bs p width n]
theorem dRowsN_wide (bs : List Nat) (p width : Nat) : ∀ n, ∀ x ∈ (dRowsN bs p width n).1, x.length = width
  | 0 => by simp [dRowsN]
  | n + 1 => by
    intro x hx
    have ih := dRowsN_wide bs p width n
    rw [dRowsN, dStep] at hx
    split at hx
    · rename_i hc
      rcases List.mem_append.1 hx with h | h
      · exact ih x h
      · simp only [List.mem_singleton] at h
        have hj : nxt bs (dRowsN bs p width n).2 / 4 % (dRowsN bs p width n).1.length < (dRowsN bs p width n).1.length := Nat.mod_lt _ hc.2
        rw [h, List.length_map, List.getD_eq_getElem?_getD, List.getElem?_eq_getElem hj]
        exact ih _ (List.getElem_mem hj)
    · rcases List.mem_append.1 hx with h | h
      · exact ih x h
      · simp only [List.mem_singleton] at h
        rw [h, dRowN_length]
theorem OwnRow.blk {w w1 : World} {g n : Nat} {xs : List V2} (h : OwnRow w g n xs) (hs : w.heap.size ≤ w1.heap.size) (hb : w1.heap[g]? = w.heap[g]?) : OwnRow w1 g n xs :=
  ⟨Nat.lt_of_lt_of_le h.size hs, fun o => (World.frozen?_of_block hb).trans (h.frz o), fun o ho => by
    obtain ⟨v, hv⟩ := h.all o ho
    exact ⟨v, (World.cell?_of_block hb).trans hv⟩, fun i x hx => ⟨(World.cell?_of_block hb).trans (h.held i x hx).1, (World.cell?_of_block hb).trans (h.held i x hx).2⟩⟩
theorem RowsOk.blk {w w1 : World} {rs : List R3} (h : RowsOk w rs) (hs : w.heap.size ≤ w1.heap.size) (hb : ∀ r ∈ rs, w1.heap[r.1]? = w.heap[r.1]?) : RowsOk w1 rs := fun r hr => ⟨(h r hr).1.blk hs (hb r hr), (h r hr).2⟩
theorem OwnG.blk {w w1 : World} {B g cap : Nat} {bs : List R3} (h : OwnG w B g cap bs) (hb : w1.heap[g]? = w.heap[g]?) : OwnG w1 B g cap bs := by
  refine ⟨h.1, ?_⟩
  rcases h.2 with h1 | ⟨g', cap', cur, h1, h2, h3, h4⟩
  · exact Or.inl h1
  · have e : g' = g := by
      simp only [Value.slice.injEq, Option.some.injEq, Addr.mk.injEq, and_true, true_and] at h1
      exact h1.1.symm
    exact Or.inr ⟨g', cap', cur, h1, h2, by rw [e, hb, ← e]; exact h3, h4⟩
theorem RowsOk.drw {R : Nat} {w w1 : World} {rs : List R3} (h : RowsOk w rs) (hd : Drw R w w1) (hn : ∀ r ∈ rs, r.1 ≠ R) : RowsOk w1 rs := h.blk hd.size (fun r hr => hd.block _ (h r hr).1.size (hn r hr))
/-- what l1DrawRows keeps round by round -/
structure Gst (w wr : World) (R : Nat) (a : Option Addr) (cap : Nat) (bs : List Nat) (st : List (List V2) × Nat) (G co : Nat) (qs : List R3) : Prop where
  own : OwnG wr w.heap.size G co qs
  rows : RowsOk wr qs
  new : ∀ r ∈ qs, w.heap.size ≤ r.1 ∧ r.1 ≠ G
  vals : qs.map kR = st.1
  rd : Rd wr R a cap bs st.2
  drw : Drw R w wr
theorem Gst.len {w wr : World} {R : Nat} {a : Option Addr} {cap : Nat} {bs : List Nat} {st : List (List V2) × Nat} {G co : Nat} {qs : List R3} (h : Gst w wr R a cap bs st G co qs) : qs.length = st.1.length := by rw [← h.vals]; simp
/-- a row more -/
theorem Gst.push {w wr w1 w2 : World} {R : Nat} {a : Option Addr} {cap : Nat} {bs : List Nat} {st : List (List V2) × Nat} {G co g1 c1 G2 c2 : Nat} {qs : List R3} {xs : List V2} {q : Nat} {o : Obj} (h : Gst w wr R a cap bs st G co qs) (hR : R < w.heap.size)
    (hd : Drw R wr w1) (hr : Rd w1 R a cap bs q) (hx : OwnRow w1 g1 xs.length xs) (hxc : xs.length ≤ c1) (hg1 : wr.heap.size ≤ g1)
    (hown : OwnG w2 w.heap.size G2 c2 (qs ++ [(g1, c1, xs)])) (hgrow : (w1.alloc o).grownBy w2 (some G)) (hat : G2 = G ∨ G2 = (w1.alloc o).heap.size) : Gst w w2 R a cap bs (st.1 ++ [xs], q) G2 c2 (qs ++ [(g1, c1, xs)]) := by
  have hG := h.own.lt
  have hs1 := hd.size
  have hra := hr.of (bA (Below.refl w1.heap.size w1) o)
  have hxs := hx.size
  have hal : ∀ b, b < w1.heap.size → (w1.alloc o).heap[b]? = w1.heap[b]? := fun b hb => (bA (Below.refl w1.heap.size w1) o).block b hb
  have hsz : (w1.alloc o).heap.size = w1.heap.size + 1 := by simp
  have hb2 : ∀ b, b < w1.heap.size → b ≠ G → w2.heap[b]? = w1.heap[b]? := fun b hb hn => (hgrow.block b (by omega) (by intro e; exact hn (Option.some.inj e))).trans (hal b hb)
  have hs2 := hgrow.size
  refine ⟨hown, fun r hr' => ?_, fun r hr' => ?_, by simp [h.vals], hra.grown hgrow (by omega), ((h.drw.trans hd).alloc (by omega) o).grown (g := G) hgrow (by omega) (by omega) (by omega)⟩
  · rcases List.mem_append.1 hr' with hm | hm
    · have hlt := (h.rows r hm).1.size
      have hne := (h.new r hm)
      refine ⟨(h.rows r hm).1.blk (by omega) ?_, (h.rows r hm).2⟩
      rw [hb2 r.1 (by omega) hne.2]
      exact hd.block r.1 hlt (by omega)
    · simp only [List.mem_singleton] at hm
      subst hm
      exact ⟨hx.blk (by omega) (hb2 g1 hxs (by omega)), hxc⟩
  · rcases List.mem_append.1 hr' with hm | hm
    · have hlt := (h.rows r hm).1.size
      have hne := (h.new r hm)
      exact ⟨hne.1, by rcases hat with e | e <;> omega⟩
    · simp only [List.mem_singleton] at hm
      subst hm
      exact ⟨by show w.heap.size ≤ g1; omega, by show g1 ≠ G2; rcases hat with e | e <;> omega⟩
end Go.Proofs.Ytafmlbojmmdcdaa
