import Derived.Test.YtbbjhepagkkjeaaGreatDoorDwDraw2
import Derived.Test.YtbbjhepagkkjeaaGreatDoorQ14
namespace Go.Proofs.YtbbjhepagkkjeaaGreatDoor
open Go Go.RowKit
theorem tcs_set : ∀ (d : List Td) (i : Nat) (t : Td), tcs (d.set i t) = (((tcs d).set (i * 3) (.string (mkS t.nm))).set (i * 3 + 1) (.int .i64 t.co)).set (i * 3 + 2) t.u
  | [], i, t => by simp [tcs]
  | a :: d, 0, t => by
    rw [List.set_cons_zero, tcs_cons, tcs_cons]
    rfl
  | a :: d, i + 1, t => by
    rw [List.set_cons_succ, tcs_cons, tcs_cons, tcs_set d i t]
    rw [show (i + 1) * 3 = i * 3 + 1 + 1 + 1 by omega]
    rfl
theorem DbS.relab {w : World} {lab lab' : Lq} {B : Nat} {v : Value} {d : List Td} (h : DbS w lab B v d) (hlab : ∀ b, (lab b).1 ≠ 0 → lab' b = lab b) (hnew : ∀ b, (lab' b).1 ≠ 0 → (lab b).1 ≠ 0 ∨ (B ≤ b ∧ b < w.heap.size ∧ v.ownBlock ≠ some b)) : DbS w lab' B v d :=
  ⟨h.own, fun b e => by
    rcases hnew b e with h1 | h1
    · exact h.rng b h1
    · exact h1, h.few, fun i t ht => (h.tab i t ht).relab hlab⟩
theorem DbS.set {w : World} {lab : Lq} {B g c i : Nat} {d : List Td} {t : Td} (h : DbS w lab B (.slice (some ⟨g, 0, none⟩) d.length c) d) (hi : i < d.length) (ht : TdS w lab B i t) :
    DbS (((w.setCell ⟨g, i * 3, none⟩ (.string (mkS t.nm))).setCell ⟨g, i * 3 + 1, none⟩ (.int .i64 t.co)).setCell ⟨g, i * 3 + 2, none⟩ t.u) lab B (.slice (some ⟨g, 0, none⟩) d.length c) (d.set i t) := by
  have o1 := h.own.stored (i * 3) (.string (mkS t.nm))
  have o2 := o1.1.stored (i * 3 + 1) (.int .i64 t.co)
  have o3 := o2.1.stored (i * 3 + 2) t.u
  have k : ButB (fun b => b = g) w (((w.setCell ⟨g, i * 3, none⟩ (.string (mkS t.nm))).setCell ⟨g, i * 3 + 1, none⟩ (.int .i64 t.co)).setCell ⟨g, i * 3 + 2, none⟩ t.u) :=
    ButB.set (S := fun b => b = g) (ButB.set (S := fun b => b = g) (ButB.set (S := fun b => b = g) (ButB.refl _ _) (Or.inl rfl) _) (Or.inl rfl) _) (Or.inl rfl) _
  have hl : ∀ b, (lab b).1 ≠ 0 → ¬ b = g := fun b e e' => (h.rng b e).2.2 (by rw [e']; rfl)
  refine ⟨by rw [tcs_set, List.length_set]; exact o3.1, fun b e => ⟨(h.rng b e).1, Nat.lt_of_lt_of_le (h.rng b e).2.1 k.size, (h.rng b e).2.2⟩, by simpa using h.few, fun j t' ht' => ?_⟩
  by_cases e : j = i
  · subst e
    rw [List.getElem?_set_self hi] at ht'
    simp only [Option.some.injEq] at ht'
    subst ht'
    exact ht.butB k hl
  · rw [List.getElem?_set_ne (fun h => e h.symm)] at ht'
    exact (h.tab j t' ht').butB k hl
theorem bT2 {R : Nat} {w w1 w2 : World} (h : Below R w w1) (k : Below w1.heap.size w1 w2) (hR : R ≤ w1.heap.size := by omega) : Below R w w2 := h.trans (k.mono hR)
def SpE (w : World) (R B : Nat) (e : Ending) (w' : World) : Prop := ∃ (v : Value) (lab : Lq) (d : List Td), e = .returned (.agg #[v]) ∧ DbS w' lab B v d ∧ Below R w w'
theorem SpE.fin {w W5 : World} {R B g vc I : Nat} {lab : Lq} {d : List Td} {t : Td} (hD : DbS W5 lab B (.slice (some ⟨g, 0, none⟩) 3 vc) d) (hd3 : d.length = 3) (hI : I < 3) (hT : TdS W5 lab B I t) (hL : Below R w W5) (hR : R < w.heap.size) (hg : R ≤ g) (hl1 : (lab (w.heap.size + 1)).1 = 0) (hg1 : g ≠ w.heap.size + 1) :
    SpE w R B (.returned (.agg #[.slice (some ⟨g, 0, none⟩) 3 vc])) ((((W5.setCell ⟨g, I * 3, none⟩ (.string (mkS t.nm))).setCell ⟨g, I * 3 + 1, none⟩ (.int .i64 t.co)).setCell ⟨g, I * 3 + 2, none⟩ t.u).setCell ⟨w.heap.size + 1, 0, none⟩ (.slice (some ⟨g, 0, none⟩) 3 vc)) := by
  rw [← hd3] at hD
  have h1 := hD.set (by omega) hT
  rw [hd3] at h1
  refine ⟨_, lab, d.set I t, rfl, h1.butB (S := fun b => b = w.heap.size + 1) (ButB.set (S := fun b => b = w.heap.size + 1) (ButB.refl _ _) (Or.inl rfl) _) (fun g' e e' => ?_) (fun b e e' => e (by rw [e']; exact hl1)), (((hL.setCell (p := ⟨g, I * 3, none⟩) hg _).setCell (p := ⟨g, I * 3 + 1, none⟩) hg _).setCell (p := ⟨g, I * 3 + 2, none⟩) hg _).setCell (p := ⟨w.heap.size + 1, 0, none⟩) (by show R ≤ w.heap.size + 1; omega) _⟩
  simp [Value.ownBlock] at e
  omega
structure SpF (w W : World) (g bt I vc : Nat) (t : Td) (nm : List UInt8) (co : Int) (u : Value) : Prop where
  e0 : W.cell? ⟨g, I * 3, none⟩ = some (.string (mkS t.nm))
  e1 : W.cell? ⟨g, I * 3 + 1, none⟩ = some (.int .i64 t.co)
  e2 : W.cell? ⟨g, I * 3 + 2, none⟩ = some t.u
  ef : ∀ o, W.frozen? ⟨g, o, none⟩ = false
  r0 : W.cell? ⟨w.heap.size, 0, none⟩ = some (.slice (some ⟨g, 0, none⟩) 3 vc)
  r1 : W.cell? ⟨w.heap.size + 1, 0, none⟩ = some (.slice none 0 0)
  r2 : ∀ o, W.frozen? ⟨w.heap.size + 1, o, none⟩ = false
  b0 : W.cell? ⟨bt, 0, none⟩ = some (.string (mkS nm))
  b1 : W.cell? ⟨bt, 1, none⟩ = some (.int .i64 co)
  b2 : W.cell? ⟨bt, 2, none⟩ = some u
  bf : ∀ o, W.frozen? ⟨bt, o, none⟩ = false
  zg : g < W.heap.size
  z0 : w.heap.size + 1 < W.heap.size
  zb : bt < W.heap.size
section
variable {w W W1 : World} {g bt I vc : Nat} {t : Td} {nm nm' : List UInt8} {co co' : Int} {u u' : Value}
theorem SpF.but {S : Nat → Prop} (h : SpF w W g bt I vc t nm co u) (k : ButB S W W1) (hg : ¬ S g) (h0 : ¬ S w.heap.size) (h1 : ¬ S (w.heap.size + 1)) (hb : ¬ S bt) : SpF w W1 g bt I vc t nm co u :=
  have hz : w.heap.size < W.heap.size := by have := h.z0; omega
  ⟨(k.cell g _ h.zg hg).trans h.e0, (k.cell g _ h.zg hg).trans h.e1, (k.cell g _ h.zg hg).trans h.e2, fun o => (k.frz g o h.zg hg).trans (h.ef o), (k.cell _ _ hz h0).trans h.r0, (k.cell _ _ h.z0 h1).trans h.r1, fun o => (k.frz _ o h.z0 h1).trans (h.r2 o), (k.cell bt _ h.zb hb).trans h.b0, (k.cell bt _ h.zb hb).trans h.b1, (k.cell bt _ h.zb hb).trans h.b2, fun o => (k.frz bt o h.zb hb).trans (h.bf o), Nat.lt_of_lt_of_le h.zg k.size, Nat.lt_of_lt_of_le h.z0 k.size, Nat.lt_of_lt_of_le h.zb k.size⟩
theorem SpF.of (h : SpF w W g bt I vc t nm co u) (hb : Below W.heap.size W W1) : SpF w W1 g bt I vc t nm co u :=
  h.but (S := fun _ => False) (ButB.ofBelow hb) (fun e => e) (fun e => e) (fun e => e) (fun e => e)
theorem SpF.set0 (h : SpF w W g bt I vc t nm co u) (hg : bt ≠ g) (h0 : bt ≠ w.heap.size) (h1 : bt ≠ w.heap.size + 1) (nm' : List UInt8) : SpF w (W.setCell ⟨bt, 0, none⟩ (.string (mkS nm'))) g bt I vc t nm' co u :=
  ⟨by rw [setCell_farN hg]; exact h.e0, by rw [setCell_farN hg]; exact h.e1, by rw [setCell_farN hg]; exact h.e2, fun o => by rw [World.frozen?_setCell]; exact h.ef o, by rw [setCell_farN h0]; exact h.r0, by rw [setCell_farN h1]; exact h.r1, fun o => by rw [World.frozen?_setCell]; exact h.r2 o, World.cell?_setCell_same _ _ _ h.b0, by rw [setCell_otherN (by omega)]; exact h.b1, by rw [setCell_otherN (by omega)]; exact h.b2, fun o => by rw [World.frozen?_setCell]; exact h.bf o, by simpa using h.zg, by simpa using h.z0, by simpa using h.zb⟩
theorem SpF.set1 (h : SpF w W g bt I vc t nm co u) (hg : bt ≠ g) (h0 : bt ≠ w.heap.size) (h1 : bt ≠ w.heap.size + 1) (co' : Int) : SpF w (W.setCell ⟨bt, 1, none⟩ (.int .i64 co')) g bt I vc t nm co' u :=
  ⟨by rw [setCell_farN hg]; exact h.e0, by rw [setCell_farN hg]; exact h.e1, by rw [setCell_farN hg]; exact h.e2, fun o => by rw [World.frozen?_setCell]; exact h.ef o, by rw [setCell_farN h0]; exact h.r0, by rw [setCell_farN h1]; exact h.r1, fun o => by rw [World.frozen?_setCell]; exact h.r2 o, by rw [setCell_otherN (by omega)]; exact h.b0, World.cell?_setCell_same _ _ _ h.b1, by rw [setCell_otherN (by omega)]; exact h.b2, fun o => by rw [World.frozen?_setCell]; exact h.bf o, by simpa using h.zg, by simpa using h.z0, by simpa using h.zb⟩
theorem SpF.set2 (h : SpF w W g bt I vc t nm co u) (hg : bt ≠ g) (h0 : bt ≠ w.heap.size) (h1 : bt ≠ w.heap.size + 1) (u' : Value) : SpF w (W.setCell ⟨bt, 2, none⟩ u') g bt I vc t nm co u' :=
  ⟨by rw [setCell_farN hg]; exact h.e0, by rw [setCell_farN hg]; exact h.e1, by rw [setCell_farN hg]; exact h.e2, fun o => by rw [World.frozen?_setCell]; exact h.ef o, by rw [setCell_farN h0]; exact h.r0, by rw [setCell_farN h1]; exact h.r1, fun o => by rw [World.frozen?_setCell]; exact h.r2 o, by rw [setCell_otherN (by omega)]; exact h.b0, by rw [setCell_otherN (by omega)]; exact h.b1, World.cell?_setCell_same _ _ _ h.b2, fun o => by rw [World.frozen?_setCell]; exact h.bf o, by simpa using h.zg, by simpa using h.z0, by simpa using h.zb⟩
end
def labP (lab : Lq) (g1 G i : Nat) : Lq := fun b => if b = G then (2, i) else if b = g1 then (1, 0) else lab b
structure DbJ (w : World) (lab : Lq) (B : Nat) (v : Value) (d : List Td) (I : Nat) : Prop where
  own : w.ownsRow B 32 3 v d.length (tcs d)
  rng : ∀ b, (lab b).1 ≠ 0 → B ≤ b ∧ b < w.heap.size ∧ v.ownBlock ≠ some b
  few : d.length ≤ 60
  tab : ∀ i t, i ≠ I → d[i]? = some t → TdS w lab B i t
theorem DbS.toJ {w : World} {lab : Lq} {B : Nat} {v : Value} {d : List Td} (h : DbS w lab B v d) (I : Nat) : DbJ w lab B v d I := ⟨h.own, h.rng, h.few, fun i t _ ht => h.tab i t ht⟩
theorem TdS.butB' {S : Nat → Prop} {w w1 : World} {lab : Lq} {B i : Nat} {t : Td} (h : TdS w lab B i t) (hb : ButB S w w1) (hl : ∀ b, (lab b = (2, i) ∨ (lab b).1 = 1) → ¬ S b) : TdS w1 lab B i t :=
  ⟨h.nm, h.lo, h.hi, h.few, ownsRow_butB h.own hb (fun g e => hl g (Or.inl (h.blk g e))), h.blk, fun r hr => ⟨(h.row r hr).1, (h.row r hr).2.1, (h.row r hr).2.2.butB hb (hl _ (Or.inr (h.row r hr).1))⟩⟩
theorem DbJ.butB {S : Nat → Prop} {w w1 : World} {lab : Lq} {B I : Nat} {v : Value} {d : List Td} (h : DbJ w lab B v d I) (hb : ButB S w w1) (hv : ∀ g, v.ownBlock = some g → ¬ S g) (hl : ∀ b, (lab b).1 ≠ 0 → ¬ S b) : DbJ w1 lab B v d I :=
  ⟨ownsRow_butB h.own hb hv, fun b e => ⟨(h.rng b e).1, Nat.lt_of_lt_of_le (h.rng b e).2.1 hb.size, (h.rng b e).2.2⟩, h.few, fun i t hi ht => (h.tab i t hi ht).butB hb hl⟩
theorem DbJ.of {w w1 : World} {lab : Lq} {B I : Nat} {v : Value} {d : List Td} (h : DbJ w lab B v d I) (hb : Below w.heap.size w w1) : DbJ w1 lab B v d I :=
  h.butB (S := fun _ => False) (ButB.ofBelow hb) (fun _ _ e => e) (fun _ _ e => e)
theorem labP_old {lab : Lq} {g1 G I : Nat} (hg1 : (lab g1).1 = 0) (hG : (lab G).1 = 0 ∨ lab G = (2, I)) (b : Nat) (e : (lab b).1 ≠ 0) : labP lab g1 G I b = lab b := by
  unfold labP
  by_cases h1 : b = G
  · subst h1
    rw [if_pos rfl]
    rcases hG with h | h
    · exact (e h).elim
    · exact h.symm
  · rw [if_neg h1]
    by_cases h2 : b = g1
    · subst h2; exact (e hg1).elim
    · rw [if_neg h2]
theorem DbJ.grow {w w2 : World} {lab : Lq} {B I g1 G2 : Nat} {v u : Value} {d : List Td} (h : DbJ w lab B v d I) (hblk : ∀ G, u.ownBlock = some G → lab G = (2, I)) (hg1 : (lab g1).1 = 0) (hg2 : B ≤ g1) (hg3 : g1 < w.heap.size) (hg4 : v.ownBlock ≠ some g1)
    (hgr : w.grownBy w2 u.ownBlock) (hat : u.ownBlock = some G2 ∨ G2 = w.heap.size) (hG2 : G2 < w2.heap.size) (hBw : B ≤ w.heap.size) : DbJ w2 (labP lab g1 G2 I) B v d I := by
  have hB : ButB (fun b => u.ownBlock = some b) w w2 := ButB.grown hgr (fun b e => e)
  have hG : (lab G2).1 = 0 ∨ lab G2 = (2, I) := by
    rcases hat with h1 | h1
    · exact Or.inr (hblk _ h1)
    · refine Or.inl ?_
      apply Classical.byContradiction
      intro e
      have := (h.rng _ e).2.1
      omega
  refine ⟨ownsRow_butB h.own hB (fun g e e' => ?_), fun b e => ?_, h.few, fun i t hi ht => ?_⟩
  · exact (h.rng g (by rw [hblk g e']; simp)).2.2 e
  · by_cases h1 : b = G2
    · subst h1
      rcases hat with h2 | h2
      · have := h.rng b (by rw [hblk b h2]; simp)
        exact ⟨this.1, hG2, this.2.2⟩
      · refine ⟨by omega, hG2, fun e' => ?_⟩
        have := (h.own.lt b e').2
        omega
    · by_cases h2 : b = g1
      · subst h2
        exact ⟨hg2, Nat.lt_of_lt_of_le hg3 hB.size, hg4⟩
      · unfold labP at e
        rw [if_neg h1, if_neg h2] at e
        have := h.rng b e
        exact ⟨this.1, Nat.lt_of_lt_of_le this.2.1 hB.size, this.2.2⟩
  · refine ((h.tab i t hi ht).butB' hB (fun b e e' => ?_)).relab (labP_old hg1 hG)
    have := hblk b e'
    rcases e with e | e
    · rw [this] at e; simp at e; omega
    · rw [this] at e; simp at e
theorem TdS.add {w w2 : World} {lab : Lq} {B I g1 k1 G2 c2 : Nat} {nm : List UInt8} {co : Int} {u : Value} {rs : List R3} {xs : List V2} (h : TdS w lab B I ⟨nm, co, u, rs⟩) (hr1 : RowT w g1 xs.length) (hx : xs.length ≤ 40) (hg1 : (lab g1).1 = 0)
    (hown : w2.ownsRow B 52 1 (.slice (some ⟨G2, 0, none⟩) (rs.length + 1) c2) (rs.length + 1) (rs.map rv ++ [rv (g1, k1, xs)])) (hgr : w.grownBy w2 u.ownBlock) (hat : u.ownBlock = some G2 ∨ G2 = w.heap.size) (hl0 : ∀ b, (lab b).1 ≠ 0 → b < w.heap.size) (hfew : rs.length < 1100) :
    TdS w2 (labP lab g1 G2 I) B I ⟨nm, co, .slice (some ⟨G2, 0, none⟩) (rs.length + 1) c2, rs ++ [(g1, k1, xs)]⟩ := by
  have hB : ButB (fun b => u.ownBlock = some b) w w2 := ButB.grown hgr (fun b e => e)
  have hblk : ∀ G, u.ownBlock = some G → lab G = (2, I) := h.blk
  have hG : (lab G2).1 = 0 ∨ lab G2 = (2, I) := by
    rcases hat with h1 | h1
    · exact Or.inr (hblk _ h1)
    · refine Or.inl ?_
      apply Classical.byContradiction
      intro e
      have := hl0 _ e
      omega
  refine ⟨h.nm, h.lo, h.hi, by simp; omega, by simpa using hown, fun G e => ?_, fun r hr => ?_⟩
  · simp [Value.ownBlock] at e
    subst e
    unfold labP
    rw [if_pos rfl]
  · rcases List.mem_append.1 hr with h1 | h1
    · have k := h.row r h1
      refine ⟨?_, k.2.1, k.2.2.butB hB (fun e => ?_)⟩
      · rw [labP_old hg1 hG _ (by rw [k.1]; simp)]; exact k.1
      · have := hblk _ e
        rw [this] at k
        simp at k
    · simp only [List.mem_singleton] at h1
      subst h1
      refine ⟨?_, hx, hr1.butB hB (fun e => ?_)⟩
      · have hne : g1 ≠ G2 := fun e => by
          subst e
          rcases hat with h2 | h2
          · have := hblk _ h2
            rw [this] at hg1
            simp at hg1
          · have := hr1.size
            omega
        have e1 : labP lab g1 G2 I g1 = (1, 0) := by
          unfold labP
          rw [if_neg hne, if_pos rfl]
        show (labP lab g1 G2 I g1).1 = 1
        rw [e1]
      · have := hblk _ e
        rw [this] at hg1
        simp at hg1
theorem DbJ.set {w : World} {lab : Lq} {B g c i : Nat} {d : List Td} {t : Td} (h : DbJ w lab B (.slice (some ⟨g, 0, none⟩) d.length c) d i) (hi : i < d.length) (ht : TdS w lab B i t) :
    DbS (((w.setCell ⟨g, i * 3, none⟩ (.string (mkS t.nm))).setCell ⟨g, i * 3 + 1, none⟩ (.int .i64 t.co)).setCell ⟨g, i * 3 + 2, none⟩ t.u) lab B (.slice (some ⟨g, 0, none⟩) d.length c) (d.set i t) := by
  have o1 := h.own.stored (i * 3) (.string (mkS t.nm))
  have o2 := o1.1.stored (i * 3 + 1) (.int .i64 t.co)
  have o3 := o2.1.stored (i * 3 + 2) t.u
  have k : ButB (fun b => b = g) w (((w.setCell ⟨g, i * 3, none⟩ (.string (mkS t.nm))).setCell ⟨g, i * 3 + 1, none⟩ (.int .i64 t.co)).setCell ⟨g, i * 3 + 2, none⟩ t.u) :=
    ButB.set (S := fun b => b = g) (ButB.set (S := fun b => b = g) (ButB.set (S := fun b => b = g) (ButB.refl _ _) (Or.inl rfl) _) (Or.inl rfl) _) (Or.inl rfl) _
  have hl : ∀ b, (lab b).1 ≠ 0 → ¬ b = g := fun b e e' => (h.rng b e).2.2 (by rw [e']; rfl)
  refine ⟨by rw [tcs_set, List.length_set]; exact o3.1, fun b e => ⟨(h.rng b e).1, Nat.lt_of_lt_of_le (h.rng b e).2.1 k.size, (h.rng b e).2.2⟩, by simpa using h.few, fun j t' ht' => ?_⟩
  by_cases e : j = i
  · subst e
    rw [List.getElem?_set_self hi] at ht'
    simp only [Option.some.injEq] at ht'
    subst ht'
    exact ht.butB k hl
  · rw [List.getElem?_set_ne (fun h => e h.symm)] at ht'
    exact (h.tab j t' e ht').butB k hl
theorem SpE.finJ {w W5 : World} {R B g vc I N : Nat} {lab : Lq} {d : List Td} {t : Td} (hD : DbJ W5 lab B (.slice (some ⟨g, 0, none⟩) N vc) d I) (hd3 : d.length = N) (hI : I < N) (hT : TdS W5 lab B I t) (hL : Below R w W5) (hR : R < w.heap.size) (hg : R ≤ g) (hl1 : (lab (w.heap.size + 1)).1 = 0) (hg1 : g ≠ w.heap.size + 1) :
    SpE w R B (.returned (.agg #[.slice (some ⟨g, 0, none⟩) N vc])) ((((W5.setCell ⟨g, I * 3, none⟩ (.string (mkS t.nm))).setCell ⟨g, I * 3 + 1, none⟩ (.int .i64 t.co)).setCell ⟨g, I * 3 + 2, none⟩ t.u).setCell ⟨w.heap.size + 1, 0, none⟩ (.slice (some ⟨g, 0, none⟩) N vc)) := by
  subst hd3
  have h1 := hD.set hI hT
  refine ⟨_, lab, d.set I t, rfl, h1.butB (S := fun b => b = w.heap.size + 1) (ButB.set (S := fun b => b = w.heap.size + 1) (ButB.refl _ _) (Or.inl rfl) _) (fun g' e e' => ?_) (fun b e e' => e (by rw [e']; exact hl1)), (((hL.setCell (p := ⟨g, I * 3, none⟩) hg _).setCell (p := ⟨g, I * 3 + 1, none⟩) hg _).setCell (p := ⟨g, I * 3 + 2, none⟩) hg _).setCell (p := ⟨w.heap.size + 1, 0, none⟩) (by show R ≤ w.heap.size + 1; omega) _⟩
  simp [Value.ownBlock] at e
  omega
def lenAt (w : World) (p : Addr) : Nat := match w.cell? p with | some (.slice _ n _) => n | _ => 0
structure SpL (w W : World) (R B g bt I vc : Nat) (a : Option Addr) (cap : Nat) (bs : List Nat) (t : Td) (d : List Td) (lab : Lq) (u : Value) (rs : List R3) (p : Nat) : Prop where
  f : SpF w W g bt I vc t t.nm t.co u
  db : DbJ W lab B (.slice (some ⟨g, 0, none⟩) 3 vc) d I
  td : TdS W lab B I ⟨t.nm, t.co, u, rs⟩
  rd : Rd W R a cap bs p
  low : Below R w W
  l1 : (lab (w.heap.size + 1)).1 = 0
  l0 : (lab w.heap.size).1 = 0
  lb : (lab bt).1 = 0
  lg : (lab g).1 = 0
  hRB : R < B
  hBw : B ≤ w.heap.size
  hgB : B ≤ g
  hgw : g < w.heap.size
  hbt : w.heap.size + 1 < bt
section
variable {w W W1 w7 : World} {R B g bt I vc : Nat} {a : Option Addr} {cap : Nat} {bs : List Nat} {t : Td} {d : List Td} {lab : Lq} {u : Value} {rs : List R3} {p q : Nat}
theorem SpL.of (h : SpL w W R B g bt I vc a cap bs t d lab u rs p) (hb : Below W.heap.size W W1) : SpL w W1 R B g bt I vc a cap bs t d lab u rs p :=
  have hR : R ≤ W.heap.size := Nat.le_of_lt h.rd.size
  ⟨h.f.of hb, h.db.of hb, h.td.butB (S := fun _ => False) (ButB.ofBelow hb) (fun _ _ e => e), h.rd.of hb, bT2 h.low hb hR, h.l1, h.l0, h.lb, h.lg, h.hRB, h.hBw, h.hgB, h.hgw, h.hbt⟩
theorem SpL.draw (h : SpL w W R B g bt I vc a cap bs t d lab u rs p) (hd : Drw R W W1) (hr : Rd W1 R a cap bs q) : SpL w W1 R B g bt I vc a cap bs t d lab u rs q := by
  have h1 := h.hRB; have h2 := h.hBw; have h3 := h.hgB; have h4 := h.hbt
  refine ⟨h.f.but hd.toBut (by omega) (by omega) (by omega) (by omega), h.db.butB hd.toBut (fun g' e e' => ?_) (fun b e e' => ?_), h.td.butB hd.toBut (fun b e e' => ?_), hr, h.low.trans hd.low, h.l1, h.l0, h.lb, h.lg, h.hRB, h.hBw, h.hgB, h.hgw, h.hbt⟩
  · have := (h.db.own.lt g' e).1
    omega
  · have := (h.db.rng b e).1
    omega
  · have := (h.db.rng b e).1
    omega
theorem SpL.push {g1 k1 G2 c2 k : Nat} {xs : List V2} (hk : rs.length = k) (h : SpL w W R B g bt I vc a cap bs t d lab u rs p) (hr1 : RowT W g1 xs.length) (hx : xs.length ≤ 40) (hg1 : (lab g1).1 = 0) (hg2 : bt < g1)
    (hown : w7.ownsRow B 52 1 (.slice (some ⟨G2, 0, none⟩) (k + 1) c2) (k + 1) (rs.map rv ++ [rv (g1, k1, xs)])) (hgr : W.grownBy w7 u.ownBlock) (hat : u.ownBlock = some G2 ∨ G2 = W.heap.size) (hfew : k < 1100) :
    SpL w (w7.setCell ⟨bt, 2, none⟩ (.slice (some ⟨G2, 0, none⟩) (k + 1) c2)) R B g bt I vc a cap bs t d (labP lab g1 G2 I) (.slice (some ⟨G2, 0, none⟩) (k + 1) c2) (rs ++ [(g1, k1, xs)]) p := by
  subst hk
  have h1 := h.hRB; have h2 := h.hBw; have h3 := h.hgB; have h4 := h.hbt; have h5 := h.hgw
  have z0 := h.f.z0; have zb := h.f.zb; have zg := h.f.zg
  have hB : ButB (fun b => u.ownBlock = some b) W w7 := ButB.grown hgr (fun b e => e)
  have hblk : ∀ G, u.ownBlock = some G → lab G = (2, I) := h.td.blk
  have hno : ∀ b, (lab b).1 = 0 → ¬ u.ownBlock = some b := fun b e e' => by
    rw [hblk b e'] at e
    simp at e
  have hG2 : G2 < w7.heap.size := (hown.lt G2 rfl).2
  have hlp : ∀ b, (lab b).1 = 0 → b < W.heap.size → b ≠ g1 → (labP lab g1 G2 I b).1 = 0 := fun b e hb hne => by
    have : b ≠ G2 := fun e' => by
      subst e'
      rcases hat with h1 | h1
      · exact hno b e h1
      · omega
    unfold labP
    rw [if_neg this, if_neg hne]
    exact e
  have f7 := h.f.but hB (hno _ h.lg) (hno _ h.l0) (hno _ h.l1) (hno _ h.lb)
  have db7 := h.db.grow hblk hg1 (by omega) hr1.size (fun e => by simp [Value.ownBlock] at e; omega) hgr hat hG2 (by omega)
  have td7 := h.td.add hr1 hx hg1 hown hgr hat (fun b e => (h.db.rng b e).2.1) hfew
  have hbB : ∀ b, u.ownBlock = some b → B ≤ b := fun b e => (h.db.rng b (by rw [hblk b e]; simp)).1
  have rd7 := h.rd.butB hB (fun b e => by have := hbB b e; omega)
  have low7 := h.low.trans (hB.below (Nat.le_of_lt h.rd.size) (fun b e => by have := hbB b e; omega))
  have kB : ButB (fun b => b = bt) w7 (w7.setCell ⟨bt, 2, none⟩ (.slice (some ⟨G2, 0, none⟩) (rs.length + 1) c2)) := ButB.set (S := fun b => b = bt) (ButB.refl _ _) (Or.inl rfl) _
  have hlb := hlp bt h.lb zb (by omega)
  have hnb : ∀ b, (labP lab g1 G2 I b).1 ≠ 0 → ¬ b = bt := fun b e e' => e (by rw [e']; exact hlb)
  refine ⟨f7.set2 (by omega) (by omega) (by omega) _, db7.butB kB (fun g' e e' => ?_) hnb, td7.butB kB hnb, rd7.butB kB (fun b e => by omega), low7.setCell (p := ⟨bt, 2, none⟩) (by show R ≤ bt; omega) _, hlp _ h.l1 z0 (by omega), hlp _ h.l0 (by omega) (by omega), hlb, hlp _ h.lg zg (by omega), h1, h2, h3, h5, h4⟩
  simp [Value.ownBlock] at e
  omega
end
structure SpT (w W : World) (R B bt I : Nat) (t : Td) (d : List Td) (lab : Lq) (v : Value) : Prop where
  db : DbS W lab B v d
  at_ : d[I]? = some t
  r0 : W.cell? ⟨w.heap.size, 0, none⟩ = some v
  rf : ∀ o, W.frozen? ⟨w.heap.size, o, none⟩ = false
  r1 : W.cell? ⟨w.heap.size + 1, 0, none⟩ = some (.slice none 0 0)
  r2 : ∀ o, W.frozen? ⟨w.heap.size + 1, o, none⟩ = false
  b0 : W.cell? ⟨bt, 0, none⟩ = some (.string (mkS t.nm))
  b1 : W.cell? ⟨bt, 1, none⟩ = some (.int .i64 t.co)
  b2 : W.cell? ⟨bt, 2, none⟩ = some t.u
  zb : bt < W.heap.size
  low : Below R w W
  l1 : (lab (w.heap.size + 1)).1 = 0
  l0 : (lab w.heap.size).1 = 0
  lb : (lab bt).1 = 0
  v1 : v.ownBlock ≠ some (w.heap.size + 1)
  v0 : v.ownBlock ≠ some w.heap.size
  vb : v.ownBlock ≠ some bt
  hRB : R < B
  hBw : B ≤ w.heap.size
  hbt : w.heap.size + 1 < bt
section
variable {w W W1 w7 : World} {R B bt I : Nat} {t : Td} {d : List Td} {lab : Lq} {v : Value}
theorem SpT.of (h : SpT w W R B bt I t d lab v) (hb : Below W.heap.size W W1) : SpT w W1 R B bt I t d lab v :=
  have zb := h.zb
  have hbt := h.hbt
  have z0 : w.heap.size < W.heap.size := by omega
  have z1 : w.heap.size + 1 < W.heap.size := by omega
  have hR : R ≤ W.heap.size := by have := h.hRB; have := h.hBw; omega
  ⟨h.db.of hb, h.at_, (hb.cell (p := ⟨w.heap.size, 0, none⟩) z0).trans h.r0, fun o => (hb.frozen (p := ⟨w.heap.size, o, none⟩) z0).trans (h.rf o), (hb.cell (p := ⟨w.heap.size + 1, 0, none⟩) z1).trans h.r1, fun o => (hb.frozen (p := ⟨w.heap.size + 1, o, none⟩) z1).trans (h.r2 o), (hb.cell (p := ⟨bt, 0, none⟩) zb).trans h.b0, (hb.cell (p := ⟨bt, 1, none⟩) zb).trans h.b1, (hb.cell (p := ⟨bt, 2, none⟩) zb).trans h.b2, Nat.lt_of_lt_of_le zb hb.size, bT2 h.low hb hR, h.l1, h.l0, h.lb, h.v1, h.v0, h.vb, h.hRB, h.hBw, h.hbt⟩
theorem SpT.push {nm : List UInt8} {e0 z g2 c2 : Nat} (h : SpT w W R B bt I t d lab v) (hz : ∀ b, (lab b).1 ≠ 0 ∨ v.ownBlock = some b ∨ b ≤ bt → b < z) (he0 : z ≤ e0) (he1 : W.heap[e0]? = some (.cells #[] 52 (0, 0))) (hnm : nm.length ≤ 100) (hfew : d.length < 60)
    (hown : w7.ownsRow B 32 3 (.slice (some ⟨g2, 0, none⟩) (d.length + 1) c2) (d.length + 1) (tcs d ++ [.string (mkS nm), .int .i64 1, .slice (some ⟨e0, 0, none⟩) 0 0])) (hgr : W.grownBy w7 v.ownBlock) (hat : v.ownBlock = some g2 ∨ g2 = W.heap.size) :
    SpT w (w7.setCell ⟨w.heap.size, 0, none⟩ (.slice (some ⟨g2, 0, none⟩) (d.length + 1) c2)) R B bt I t (d ++ [⟨nm, 1, .slice (some ⟨e0, 0, none⟩) 0 0, []⟩]) (fun b => if b = e0 then (2, d.length) else lab b) (.slice (some ⟨g2, 0, none⟩) (d.length + 1) c2) := by
  have h1 := h.hRB; have h2 := h.hBw; have h4 := h.hbt; have zb := h.zb
  have z0 : w.heap.size < W.heap.size := by omega
  have z1 : w.heap.size + 1 < W.heap.size := by omega
  have hbz := hz bt (Or.inr (Or.inr (Nat.le_refl _)))
  have hes : e0 < W.heap.size := (Array.getElem?_eq_some_iff.1 he1).1
  have hle : ∀ b, b ≤ bt → ((fun b => if b = e0 then (2, d.length) else lab b) b : Nat × Nat) = lab b := fun b hb => by
    have := hz b (Or.inr (Or.inr hb))
    exact if_neg (by omega)
  have hold : ∀ b, (lab b).1 ≠ 0 → ((fun b => if b = e0 then (2, d.length) else lab b) b : Nat × Nat) = lab b := fun b hb => by
    have := hz b (Or.inl hb)
    exact if_neg (by omega)
  have hT : TdS W (fun b => if b = e0 then (2, d.length) else lab b) B d.length ⟨nm, 1, .slice (some ⟨e0, 0, none⟩) 0 0, []⟩ := by
    refine ⟨hnm, by show (-1000 : Int) ≤ 1; omega, by show (1 : Int) ≤ 1000; omega, by simp, ⟨rfl, Or.inr ⟨e0, 0, #[], rfl, by omega, he1, Nat.le_refl _, Nat.zero_le _, rfl, rfl⟩⟩, fun G e => ?_, fun r hr => by simp at hr⟩
    simp [Value.ownBlock] at e
    subst e
    exact if_pos rfl
  have hnew : ∀ b, ((fun b => if b = e0 then (2, d.length) else lab b) b : Nat × Nat).1 ≠ 0 → (lab b).1 ≠ 0 ∨ (B ≤ b ∧ b < W.heap.size ∧ v.ownBlock ≠ some b) := fun b e => by
    by_cases hb : b = e0
    · subst hb
      refine Or.inr ⟨by omega, hes, fun e' => ?_⟩
      have := hz b (Or.inr (Or.inl e'))
      omega
    · simp only [if_neg hb] at e
      exact Or.inl e
  have db7 := h.db.push hT hold hnew hfew hown hgr hat
  have hB : ButB (fun b => v.ownBlock = some b) W w7 := ButB.grown hgr (fun b e => e)
  have kB : ButB (fun b => b = w.heap.size) w7 (w7.setCell ⟨w.heap.size, 0, none⟩ (.slice (some ⟨g2, 0, none⟩) (d.length + 1) c2)) := ButB.set (S := fun b => b = w.heap.size) (ButB.refl _ _) (Or.inl rfl) _
  have s7 := hB.size
  have hg2 : ∀ b, b ≤ bt → v.ownBlock ≠ some b → (Value.slice (some ⟨g2, 0, none⟩) (d.length + 1) c2).ownBlock ≠ some b := fun b hb hv e => by
    simp [Value.ownBlock] at e
    subst e
    rcases hat with h5 | h5
    · exact hv h5
    · omega
  have low7 := h.low.trans (hB.below (B := R) (by omega) (fun b e => by have := (h.db.own.lt b e).1; omega))
  have q0 := (hB.cell w.heap.size 0 z0 h.v0).trans h.r0
  refine ⟨db7.butB kB (fun g' e e' => hg2 w.heap.size (by omega) h.v0 (by rw [e, e'])) (fun b e e' => e ?_), ?_, World.cell?_setCell_same _ _ _ q0, fun o => by rw [World.frozen?_setCell]; exact (hB.frz _ o z0 h.v0).trans (h.rf o), ?_, fun o => by rw [World.frozen?_setCell]; exact (hB.frz _ o z1 h.v1).trans (h.r2 o), ?_, ?_, ?_, by simp; omega, low7.setCell (p := ⟨w.heap.size, 0, none⟩) (by show R ≤ w.heap.size; omega) _, ?_, ?_, ?_, hg2 _ (by omega) h.v1, hg2 _ (by omega) h.v0, hg2 _ (by omega) h.vb, h1, h2, h4⟩
  · rw [e']; exact (congrArg Prod.fst (hle w.heap.size (by omega))).trans h.l0
  · rw [List.getElem?_append_left (List.getElem?_eq_some_iff.1 h.at_).1]; exact h.at_
  · exact (kB.cell _ 0 (by omega) (by omega)).trans ((hB.cell _ 0 z1 h.v1).trans h.r1)
  · exact (kB.cell _ 0 (by omega) (by omega)).trans ((hB.cell _ 0 zb h.vb).trans h.b0)
  · exact (kB.cell _ 1 (by omega) (by omega)).trans ((hB.cell _ 1 zb h.vb).trans h.b1)
  · exact (kB.cell _ 2 (by omega) (by omega)).trans ((hB.cell _ 2 zb h.vb).trans h.b2)
  · exact (congrArg Prod.fst (hle (w.heap.size + 1) (by omega))).trans h.l1
  · exact (congrArg Prod.fst (hle w.heap.size (by omega))).trans h.l0
  · exact (congrArg Prod.fst (hle bt (Nat.le_refl _))).trans h.lb
end
end Go.Proofs.YtbbjhepagkkjeaaGreatDoor
