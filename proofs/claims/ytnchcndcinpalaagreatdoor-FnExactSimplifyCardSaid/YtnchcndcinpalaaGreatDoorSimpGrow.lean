import Derived.Test.YtnchcndcinpalaaGreatDoorQ20
/-
  WHAT Simplify GIVES, as a list of nodes; and a list of nodes that grows.
-/
namespace Go.Proofs.YtnchcndcinpalaaGreatDoor
open Go Go.RowKit

/-- the kind of node i (k before) after the nodes below j have spoken: what one after i asks of its mark -/
def laterK (ts : List Tb) (fs : List Fn) (Rt : Int) (i : Nat) (k : Int) : Nat → Int
  | 0 => k
  | j + 1 => match fs[j]? with
    | none => laterK ts fs Rt i k j
    | some p => if i < j ∧ p.L = (i : Int) ∧ 0 < asksP ts fs Rt p then 10 + (asksP ts fs Rt p : Int) - 1 else laterK ts fs Rt i k j
theorem laterK_start (ts : List Tb) (fs : List Fn) (Rt : Int) (i : Nat) (k : Int) : ∀ j, j ≤ i + 1 → laterK ts fs Rt i k j = k := fun j => by
  induction j with
  | zero => intro _; rfl
  | succ j ih =>
    intro h
    unfold laterK
    split
    · exact ih (by omega)
    · rw [if_neg (by omega)]; exact ih (by omega)
theorem laterK_succ (ts : List Tb) (fs : List Fn) (Rt : Int) (i : Nat) (k : Int) (j : Nat) (hj : j < fs.length) (hi : i < j) : laterK ts fs Rt i k (j + 1) = if (fs[j]).L = (i : Int) ∧ 0 < asksP ts fs Rt fs[j] then 10 + (asksP ts fs Rt fs[j] : Int) - 1 else laterK ts fs Rt i k j := by
  conv => lhs; unfold laterK
  rw [List.getElem?_eq_getElem hj]
  simp [hi]
/-- the node that stands where one asked of a mark -/
def askedN (ts : List Tb) (fs : List Fn) (Rt : Int) (p : Fn) : Fn :=
  if 0 < asksP ts fs Rt p then ⟨4, 0, 0, 0, [], colExs (fw ts fs p.L.toNat - 1).toNat ++ [[(1, 2 - (asksP ts fs Rt p : Int))]], p.L, 0⟩ else p
def simpN (ts : List Tb) (fs : List Fn) (Rt : Int) (i : Nat) (p : Fn) : Fn :=
  { askedN ts fs Rt p with K := laterK ts fs Rt i (askedN ts fs Rt p).K fs.length }
/-- what Simplify gives of the first k nodes -/
def simpTo (ts : List Tb) (fs : List Fn) (Rt : Int) (k : Nat) : List Fn := (List.range k).map fun i => simpN ts fs Rt i (fs.getD i ⟨0, 0, 0, 0, [], [], 0, 0⟩)
theorem simpTo_length (ts : List Tb) (fs : List Fn) (Rt : Int) (k : Nat) : (simpTo ts fs Rt k).length = k := by simp [simpTo]
theorem simpTo_succ (ts : List Tb) (fs : List Fn) (Rt : Int) (k : Nat) (hk : k < fs.length) : simpTo ts fs Rt (k + 1) = simpTo ts fs Rt k ++ [simpN ts fs Rt k fs[k]] := by
  simp [simpTo, List.range_succ, List.getD_eq_getElem?_getD, List.getElem?_eq_getElem hk]

/-- the cells of a node, by the values of its two lists -/
def vFn (p : Fn) (u4 u5 : Value) : List Value := [.int .i64 p.K, .int .i64 p.T, .int .i64 p.M, .int .i64 p.W, u4, u5, .int .i64 p.L, .int .i64 p.R]
/-- nodes in the making: cells cs; their lists are the call's own, none of them at G -/
structure GrowF (w : World) (B C G c n : Nat) (cs : List Value) (fs : List Fn) : Prop where
  own : w.ownsRow B 67 8 (.slice (some ⟨G, 0, none⟩) n c) n cs
  cnt : fs.length = n
  len : cs.length = n * 8
  node : ∀ i p, fs[i]? = some p → ∃ u4 u5, (∀ (o : Nat) v, (vFn p u4 u5)[o]? = some v → cs[i * 8 + o]? = some v) ∧ OpsM w u4 p.Ex (fun b => C ≤ b ∧ b ≠ G) ∧ OpssM w u5 p.Exs (fun b => C ≤ b ∧ b ≠ G) (fun _ b => C ≤ b ∧ b ≠ G)
theorem GrowF.lt {w : World} {B C G c n : Nat} {cs : List Value} {fs : List Fn} (h : GrowF w B C G c n cs fs) : G < w.heap.size ∧ B ≤ G ∧ n ≤ c ∧ c ≤ maxLen := by
  rcases h.own.2 with ⟨h1, _⟩ | ⟨g', cap', cur, h1, h2, h3, h4, h5, _⟩
  · simp at h1
  · simp only [Value.slice.injEq, Option.some.injEq, Addr.mk.injEq, and_true, true_and] at h1
    obtain ⟨rfl, rfl⟩ := h1
    exact ⟨(Array.getElem?_eq_some_iff.1 h3).1, h2, h4, h5⟩
theorem GrowF.of {w w1 : World} {B C G c n : Nat} {cs : List Value} {fs : List Fn} (h : GrowF w B C G c n cs fs) (hb : Below w.heap.size w w1) : GrowF w1 B C G c n cs fs := by
  have hl := h.lt.1
  refine ⟨⟨h.own.1, ?_⟩, h.cnt, h.len, fun i p hp => ?_⟩
  · rcases h.own.2 with h1 | ⟨g', cap', cur, h1, h2, h3, h4⟩
    · exact Or.inl h1
    · have e : g' = G := by
        simp only [Value.slice.injEq, Option.some.injEq, Addr.mk.injEq, and_true, true_and] at h1
        exact h1.1.symm
      exact Or.inr ⟨g', cap', cur, h1, h2, by rw [hb.block g' (by rw [e]; exact hl)]; exact h3, h4⟩
  · obtain ⟨u4, u5, a, b, c⟩ := h.node i p hp
    exact ⟨u4, u5, a, b.of hb, c.of hb⟩
theorem GrowF.start (w : World) (B C : Nat) (hB : B ≤ w.heap.size) : GrowF (w.alloc (.cells #[] 67)) B C w.heap.size 0 0 [] [] :=
  ⟨⟨rfl, Or.inr ⟨w.heap.size, 0, #[], rfl, hB, (MapKept.heap_alloc w _).1, Nat.le_refl _, Nat.zero_le _, rfl, rfl⟩⟩, rfl, rfl, fun i p h => by simp at h⟩
theorem OpssM.grown {w w2 : World} {u : Value} {oss : List (List O2)} {So : Nat → Prop} {Si : Nat → Nat → Prop} {row : Option Nat} (h : OpssM w u oss So Si) (hgr : w.grownBy w2 row) (hne : ∀ b, So b → some b ≠ row) (hni : ∀ i b, Si i b → some b ≠ row) : OpssM w2 u oss So Si := by
  rcases h with h | ⟨o, c, h1, h2, h3, h4⟩
  · exact Or.inl h
  · refine Or.inr ⟨o, c, h1, h2, Nat.lt_of_lt_of_le h3 hgr.size, fun i xs hx => ?_⟩
    obtain ⟨u', hu, hr⟩ := h4 i xs hx
    exact ⟨u', (hgr.cell_far ⟨o, i, none⟩ h3 (hne o h2)).trans hu, hr.grown hgr (hni i)⟩
/-- a store at a box that no list and no node lies in -/
theorem GrowF.stored {w : World} {B C G c n : Nat} {cs : List Value} {fs : List Fn} (h : GrowF w B C G c n cs fs) {g o : Nat} (hg : g < C) (hne : g ≠ G) (v : Value) : GrowF (w.setCell ⟨g, o, none⟩ v) B C G c n cs fs := by
  have hl := h.lt.2.1
  refine ⟨⟨h.own.1, ?_⟩, h.cnt, h.len, fun i p hp => ?_⟩
  · rcases h.own.2 with h1 | ⟨g', cap', cur, h1, h2, h3, h4⟩
    · exact Or.inl h1
    · have e : g' = G := by
        simp only [Value.slice.injEq, Option.some.injEq, Addr.mk.injEq, and_true, true_and] at h1
        exact h1.1.symm
      exact Or.inr ⟨g', cap', cur, h1, h2, by rw [Below.heap_setCell w _ _ g' (by dsimp only; omega)]; exact h3, h4⟩
  · obtain ⟨u4, u5, a, b, c⟩ := h.node i p hp
    exact ⟨u4, u5, a, b.stored (fun b e => by omega) v, c.stored (fun b e => by omega) (fun _ b e => by omega) v⟩
/-- one more node, by append -/
theorem GrowF.push {w w2 : World} {B C G c n G2 c2 : Nat} {cs : List Value} {fs : List Fn} {p : Fn} {u4 u5 : Value} (h : GrowF w B C G c n cs fs) (h4 : OpsM w u4 p.Ex (fun b => C ≤ b ∧ b ≠ G)) (h5 : OpssM w u5 p.Exs (fun b => C ≤ b ∧ b ≠ G) (fun _ b => C ≤ b ∧ b ≠ G))
    (hown : w2.ownsRow B 67 8 (.slice (some ⟨G2, 0, none⟩) (n + 1) c2) (n + 1) (cs ++ vFn p u4 u5)) (hgr : w.grownBy w2 (some G)) (hat : G2 = G ∨ G2 = w.heap.size) : GrowF w2 B C G2 c2 (n + 1) (cs ++ vFn p u4 u5) (fs ++ [p]) := by
  have hn := h.cnt
  have hlen := h.len
  have k4 : ∀ {u : Value} {xs : List O2}, OpsM w u xs (fun b => C ≤ b ∧ b ≠ G) → OpsM w2 u xs (fun b => C ≤ b ∧ b ≠ G2) := fun {u xs} hu =>
    ((hu.mono (T := fun b => (C ≤ b ∧ b ≠ G) ∧ b < w.heap.size) (fun b hb e => ⟨e, hb⟩)).grown hgr (fun b e => by have := e.1.2; simpa using this)).mono (fun b _ e => ⟨e.1.1, by omega⟩)
  have k5 : ∀ {u : Value} {oss : List (List O2)}, OpssM w u oss (fun b => C ≤ b ∧ b ≠ G) (fun _ b => C ≤ b ∧ b ≠ G) → OpssM w2 u oss (fun b => C ≤ b ∧ b ≠ G2) (fun _ b => C ≤ b ∧ b ≠ G2) := fun {u oss} hu =>
    ((hu.mono (To := fun b => (C ≤ b ∧ b ≠ G) ∧ b < w.heap.size) (Ti := fun _ b => (C ≤ b ∧ b ≠ G) ∧ b < w.heap.size) (fun b hb e => ⟨e, hb⟩) (fun _ b hb e => ⟨e, hb⟩)).grown hgr (fun b e => by have := e.1.2; simpa using this) (fun _ b e => by have := e.1.2; simpa using this)).mono (fun b _ e => ⟨e.1.1, by omega⟩) (fun _ b _ e => ⟨e.1.1, by omega⟩)
  refine ⟨hown, by simp [hn], by simp [vFn, hlen]; omega, fun i q hq => ?_⟩
  by_cases hi : i < fs.length
  · rw [List.getElem?_append_left hi] at hq
    obtain ⟨v4, v5, a, b, c⟩ := h.node i q hq
    exact ⟨v4, v5, fun o v hv => by
      have := a o v hv
      rw [List.getElem?_append_left ((List.getElem?_eq_some_iff.1 this).1)]; exact this, k4 b, k5 c⟩
  · have hi1 := (List.getElem?_eq_some_iff.1 hq).1
    simp at hi1
    obtain rfl : i = fs.length := by omega
    rw [List.getElem?_append_right (Nat.le_refl _)] at hq
    simp at hq
    subst hq
    exact ⟨u4, u5, fun o v hv => by
      rw [List.getElem?_append_right (by omega), show fs.length * 8 + o - cs.length = o by rw [hlen, hn]; omega]; exact hv, k4 h4, k5 h5⟩
/-- .. as nodes that can be read -/
theorem GrowF.isFns {w : World} {B C G c n : Nat} {cs : List Value} {fs : List Fn} (h : GrowF w B C G c n cs fs) : IsFns w (.slice (some ⟨G, 0, none⟩) n c) fs := by
  have hcell : ∀ (j : Nat) v, cs[j]? = some v → w.cell? ⟨G, j, none⟩ = some v := by
    rcases h.own.2 with ⟨h1, _⟩ | ⟨g', cap', cur, h1, h2, h3, h4, h5, h6, h7⟩
    · simp at h1
    · simp only [Value.slice.injEq, Option.some.injEq, Addr.mk.injEq, and_true, true_and] at h1
      obtain ⟨rfl, rfl⟩ := h1
      intro j v hv
      have hj := (List.getElem?_eq_some_iff.1 hv).1
      rw [h.len] at hj
      rw [← h7, List.getElem?_take, if_pos (by omega)] at hv
      simp only [World.cell?, h3]
      simpa using hv
  have hc := h.cnt
  refine Or.inr ⟨G, 0, c, by rw [hc], h.lt.1, fun i p hp => ?_⟩
  obtain ⟨u4, u5, a, b, d⟩ := h.node i p hp
  rw [Nat.zero_add]
  exact ⟨hcell _ _ (a 0 _ rfl), hcell _ _ (a 1 _ rfl), hcell _ _ (a 2 _ rfl), hcell _ _ (a 3 _ rfl), hcell _ _ (a 6 _ rfl), hcell _ _ (a 7 _ rfl), ⟨u4, hcell _ _ (a 4 _ rfl), b.is⟩, u5, hcell _ _ (a 5 _ rfl), d.is⟩
end Go.Proofs.YtnchcndcinpalaaGreatDoor
