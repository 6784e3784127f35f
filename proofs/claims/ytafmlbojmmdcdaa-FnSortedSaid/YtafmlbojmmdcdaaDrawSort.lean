import Derived.Test.YtafmlbojmmdcdaaDrawRows2
namespace Go.Proofs.Ytafmlbojmmdcdaa
open Go Go.RowKit
def dN (bs : List Nat) : Nat := if 200 < nxt bs 0 % 5 + (bs.length - adv bs 0) / 4 then 200 else nxt bs 0 % 5 + (bs.length - adv bs 0) / 4
def dMain (bs : List Nat) : List (List V2) × Nat := dRowsN bs (adv bs 0) (1 + nxt bs 0 / 5 % 3) (dN bs)
def dSortB (bs : List Nat) : List (List V2) :=
  if nxt bs 0 % 3 = 2 ∧ 0 < dN bs then (dMain bs).1 ++ [[], (dRowN bs (dMain bs).2 1).1, ((dMain bs).1.getD 0 []).map clnV] else (dMain bs).1
def dSort (cs : List Nat) : List (List V2) := dSortB (cs.take 1500)
theorem dN_le (bs : List Nat) : dN bs ≤ 200 := by unfold dN; split <;> omega
theorem dSort_length (cs : List Nat) : (dSort cs).length ≤ 203 := by
  unfold dSort dSortB
  have := dN_le (cs.take 1500)
  split <;> simp [dMain, dRowsN_length] <;> omega
theorem dSort_wide (cs : List Nat) : ∀ x ∈ dSort cs, x.length ≤ 3 := by
  have hw : ∀ x ∈ (dMain (cs.take 1500)).1, x.length ≤ 3 := fun x hx => by
    have := dRowsN_wide _ _ _ _ x hx
    omega
  unfold dSort dSortB
  intro x hx
  split at hx
  · rename_i hc
    rcases List.mem_append.1 hx with h | h
    · exact hw x h
    · simp only [List.mem_cons, List.not_mem_nil, or_false] at h
      rcases h with rfl | rfl | rfl
      · simp
      · rw [dRowN_length]; omega
      · rw [List.length_map]
        have hl : (dMain (cs.take 1500)).1.length = dN (cs.take 1500) := dRowsN_length _ _ _ _
        have h0 : 0 < (dMain (cs.take 1500)).1.length := by omega
        rw [List.getD_eq_getElem?_getD, List.getElem?_eq_getElem h0]
        exact hw _ (List.getElem_mem h0)
  · exact hw x hx
/-- while the last three rows are made -/
structure Tri (w wr u : World) (R : Nat) (a : Option Addr) (cap : Nat) (bs : List Nat) (st : List (List V2)) (G co : Nat) (qs : List R3) (q : Nat) (new : List R3) : Prop where
  g : Gst w u R a cap bs (st, q) G co qs
  sz : wr.heap.size ≤ u.heap.size
  rows : ∀ r ∈ new, OwnRow u r.1 r.2.2.length r.2.2 ∧ r.2.2.length ≤ r.2.1 ∧ wr.heap.size ≤ r.1
variable {w wr u u1 : World} {R : Nat} {a : Option Addr} {cap : Nat} {bs : List Nat} {st : List (List V2)} {G co : Nat} {qs : List R3} {q : Nat} {new : List R3}
theorem Gst.below (h : Gst w u R a cap bs (st, q) G co qs) (hR : R < w.heap.size) (hb : Below u.heap.size u u1) : Gst w u1 R a cap bs (st, q) G co qs :=
  ⟨h.own.of hb, h.rows.of hb, h.new, h.vals, h.rd.of hb, h.drw.below (by have := h.drw.size; omega) hb⟩
theorem Tri.below (h : Tri w wr u R a cap bs st G co qs q new) (hR : R < w.heap.size) (hb : Below u.heap.size u u1) : Tri w wr u1 R a cap bs st G co qs q new :=
  ⟨h.g.below hR hb, Nat.le_trans h.sz hb.size, fun r hr => ⟨(h.rows r hr).1.of hb, (h.rows r hr).2⟩⟩
theorem Tri.drew (h : Tri w wr u R a cap bs st G co qs q new) (hR : R < w.heap.size) : Tri w wr u.drew R a cap bs st G co qs q new := h.below hR (Below.refl _ _).drew
theorem Tri.alloc (h : Tri w wr u R a cap bs st G co qs q new) (hR : R < w.heap.size) (o : Obj) : Tri w wr (u.alloc o) R a cap bs st G co qs q new := h.below hR (bA (Below.refl _ _) o)
theorem Tri.empty (h : Tri w wr u R a cap bs st G co qs q new) (hR : R < w.heap.size) (t : TypeId) : Tri w wr (u.alloc (.cells #[] t)) R a cap bs st G co qs q ((u.heap.size, 0, []) :: new) := by
  have h1 := h.alloc hR (.cells #[] t)
  refine ⟨h1.g, h1.sz, fun r hr => ?_⟩
  rcases List.mem_cons.1 hr with rfl | hr
  · exact ⟨OwnRow.made u 0 #[] t rfl, Nat.le_refl _, h.sz⟩
  · exact h1.rows r hr
theorem Tri.more {g c q' : Nat} {xs : List V2} (h : Tri w wr u R a cap bs st G co qs q new) (hR : R < wr.heap.size) (hRw : R < w.heap.size) (hd : Drw R u u1) (hr : Rd u1 R a cap bs q') (ho : OwnS u1 u.heap.size g c xs) : Tri w wr u1 R a cap bs st G co qs q' ((g, c, xs) :: new) := by
  have hG := h.g.own.lt
  refine ⟨⟨h.g.own.blk (hd.block G hG.1 (by omega)), h.g.rows.drw hd (fun r hr => by have := (h.g.new r hr).1; omega), h.g.new, h.g.vals, hr, h.g.drw.trans hd⟩, Nat.le_trans h.sz hd.size, fun r hr' => ?_⟩
  rcases List.mem_cons.1 hr' with rfl | hr'
  · exact ⟨ho.ownRow, ho.lt.2.2.1, Nat.le_trans h.sz ho.lt.2.1⟩
  · exact ⟨(h.rows r hr').1.drw hd (by have := (h.rows r hr').2.2; omega), (h.rows r hr').2⟩
theorem Tri.copy {g c : Nat} {xs : List V2} (h : Tri w wr u R a cap bs st G co qs q new) (hRw : R < w.heap.size) (hb : Below u.heap.size u u1) (ho : OwnS u1 u.heap.size g c xs) : Tri w wr u1 R a cap bs st G co qs q ((g, c, xs) :: new) := by
  have h1 := h.below hRw hb
  refine ⟨h1.g, h1.sz, fun r hr' => ?_⟩
  rcases List.mem_cons.1 hr' with rfl | hr'
  · exact ⟨ho.ownRow, ho.lt.2.2.1, Nat.le_trans h.sz ho.lt.2.1⟩
  · exact h1.rows r hr'
/-- three rows more -/
theorem Tri.push3 {w2 : World} {r1 r2 r3 : R3} {G2 c2 : Nat} (h : Tri w wr u R a cap bs st G co qs q new) (hRw : R < w.heap.size) (hG : G < wr.heap.size) (h1 : r1 ∈ new) (h2 : r2 ∈ new) (h3 : r3 ∈ new)
    (hown : w2.ownsRow w.heap.size 27 1 (.slice (some ⟨G2, 0, none⟩) (qs.length + 3) c2) (qs.length + 3) (qs.map rv ++ [rv r1, rv r2, rv r3])) (hgrow : u.grownBy w2 (some G)) :
    OwnG w2 w.heap.size G2 c2 (qs ++ [r1, r2, r3]) ∧ RowsOk w2 (qs ++ [r1, r2, r3]) ∧ (qs ++ [r1, r2, r3]).map kR = st ++ [kR r1, kR r2, kR r3] ∧ Drw R w w2 := by
  refine ⟨?_, fun r hr => ?_, by rw [List.map_append, h.g.vals]; rfl, ?_⟩
  · unfold OwnG
    rw [List.length_append, List.map_append]
    exact hown
  · rcases List.mem_append.1 hr with hm | hm
    · have hb := hgrow.block r.1 (h.g.rows r hm).1.size (by intro e; exact (h.g.new r hm).2 (Option.some.inj e))
      exact ⟨(h.g.rows r hm).1.blk hgrow.size hb, (h.g.rows r hm).2⟩
    · have hm' : r ∈ new := by
        simp only [List.mem_cons, List.not_mem_nil, or_false] at hm
        rcases hm with rfl | rfl | rfl <;> assumption
      obtain ⟨k1, k2, k3⟩ := h.rows r hm'
      exact ⟨k1.blk hgrow.size (hgrow.block r.1 k1.size (by intro e; have := Option.some.inj e; omega)), k2⟩
  · have hrs := h.g.rd.size
    have hGl := h.g.own.lt
    have hs := h.g.drw.size
    exact h.g.drw.grown hgrow hGl.2.1 (by omega) (by omega)
end Go.Proofs.Ytafmlbojmmdcdaa
