import Derived.Test.YtbbjhepagkkjeaaGreatDoorQ5
import Derived.Test.YtbbjhepagkkjeaaGreatDoorQ8
import Derived.Laws.OwnMore
import Derived.Test.YtbbjhepagkkjeaaGreatDoorQ7
import Derived.Lib.Join
import Derived.Lib.ItoaNum
namespace Go.Proofs.YtbbjhepagkkjeaaGreatDoor
open Go Go.RowKit
def mkV (k : Nat) : V2 := ((k : Int) % 3 == 0, (k : Int) + 1)
def marks (k n : Nat) : List V2 := (List.range n).map (fun j => mkV (k + 2 * j))
structure But (S : Nat → Prop) (w w' : World) : Prop where
  size : w.heap.size ≤ w'.heap.size
  cell : ∀ b o, b < w.heap.size → ¬ S b → w'.cell? ⟨b, o, none⟩ = w.cell? ⟨b, o, none⟩
  frz : ∀ b o, b < w.heap.size → w'.frozen? ⟨b, o, none⟩ = w.frozen? ⟨b, o, none⟩
  low : ∀ B, (∀ b, S b → B ≤ b) → Below B w w'
theorem But.refl (S : Nat → Prop) (w : World) : But S w w := ⟨Nat.le_refl _, fun _ _ _ _ => rfl, fun _ _ _ => rfl, fun _ _ => Below.refl _ _⟩
theorem But.trans {S : Nat → Prop} {w w1 w2 : World} (h : But S w w1) (h' : But S w1 w2) : But S w w2 :=
  ⟨Nat.le_trans h.size h'.size, fun b o hb hs => (h'.cell b o (Nat.lt_of_lt_of_le hb h.size) hs).trans (h.cell b o hb hs), fun b o hb => (h'.frz b o (Nat.lt_of_lt_of_le hb h.size)).trans (h.frz b o hb), fun B hB => (h.low B hB).trans (h'.low B hB)⟩
theorem But.mono {S T : Nat → Prop} {w w1 : World} (h : But S w w1) (hs : ∀ b, S b → T b) : But T w w1 :=
  ⟨h.size, fun b o hb hn => h.cell b o hb (fun hb' => hn (hs b hb')), h.frz, fun B hB => h.low B (fun b hb => hB b (hs b hb))⟩
theorem But.set {S : Nat → Prop} {w w1 : World} (h : But S w w1) {g o : Nat} (hg : S g) (v : Value) : But S w (w1.setCell ⟨g, o, none⟩ v) :=
  ⟨by simpa using h.size, fun b o' hb hn => by rw [setCell_far (fun (e : g = b) => hn (by rw [← e]; exact hg))]; exact h.cell b o' hb hn, fun b o' hb => by rw [frozen_setCell]; exact h.frz b o' hb, fun B hB => (h.low B hB).setCell (hB g hg) v⟩
theorem But.draw {S : Nat → Prop} {w w1 : World} (h : But S w w1) : But S w w1.drew := ⟨h.size, h.cell, h.frz, fun B hB => (h.low B hB).drew⟩
theorem OwnRow.but {S : Nat → Prop} {w w1 : World} {g n : Nat} {xs : List V2} (h : OwnRow w g n xs) (hb : But S w w1) (hn : ¬ S g) : OwnRow w1 g n xs :=
  ⟨Nat.lt_of_lt_of_le h.size hb.size, fun o => (hb.frz g o h.size).trans (h.frz o), fun o ho => by rw [hb.cell g o h.size hn]; exact h.all o ho, fun i x hx => by
    rw [hb.cell g _ h.size hn, hb.cell g _ h.size hn]; exact h.held i x hx⟩
theorem RowsOk.but {S : Nat → Prop} {w w1 : World} {rs : List R3} (h : RowsOk w rs) (hb : But S w w1) (hn : ∀ r ∈ rs, ¬ S r.1) : RowsOk w1 rs := fun r hr => ⟨(h r hr).1.but hb (hn r hr), (h r hr).2⟩
theorem GridAt.but {S : Nat → Prop} {w w1 : World} {G off : Nat} {rs : List R3} (h : GridAt w G off rs) (hG : G < w.heap.size) (hb : But S w w1) (hn : ¬ S G) : GridAt w1 G off rs := fun i r hr => (hb.cell G _ hG hn).trans (h i r hr)
theorem OwnRow.set {w : World} {g n i : Nat} {xs : List V2} (h : OwnRow w g n xs) (hi : i < xs.length) (hn : xs.length ≤ n) (b : Bool) (k : Int) :
    OwnRow ((w.setCell ⟨g, i * 2, none⟩ (.bool b)).setCell ⟨g, i * 2 + 1, none⟩ (.int .i64 k)) g n (xs.set i (b, k)) := by
  refine ⟨by simpa using h.size, fun o => by rw [frozen_setCell, frozen_setCell]; exact h.frz o, fun o ho => ?_, fun j x hx => ?_⟩
  · obtain ⟨v, hv⟩ := h.all o ho
    obtain ⟨z, hz⟩ := setCell_there (o' := i * 2) (v := .bool b) hv
    exact setCell_there hz
  · simp only [Nat.zero_add]
    by_cases hj : i = j
    · subst hj
      rw [List.getElem?_set_self hi] at hx
      simp only [Option.some.injEq] at hx
      subst hx
      obtain ⟨v0, h0⟩ := h.all (i * 2) (by omega)
      obtain ⟨v1, h1⟩ := h.all (i * 2 + 1) (by omega)
      obtain ⟨z, hz⟩ := setCell_there (o' := i * 2) (v := .bool b) h1
      refine ⟨?_, World.cell?_setCell_same _ _ _ hz⟩
      rw [setCell_other (by omega)]
      exact World.cell?_setCell_same _ _ _ h0
    · rw [List.getElem?_set_ne hj] at hx
      have := h.held j x hx
      simp only [Nat.zero_add] at this
      refine ⟨?_, ?_⟩
      · rw [setCell_other (by omega), setCell_other (by omega)]; exact this.1
      · rw [setCell_other (by omega), setCell_other (by omega)]; exact this.2
end Go.Proofs.YtbbjhepagkkjeaaGreatDoor
namespace Go.Proofs.YtbbjhepagkkjeaaGreatDoor
open Go Go.RowKit
def kAt (k : Nat) (rs : List R3) (j : Nat) : Nat := k + 2 * bulk ((rs.map kR).take j)
def Marked (w : World) (k : Nat) (rs : List R3) (n : Nat) : Prop := ∀ j (h : j < rs.length), j < n → OwnRow w rs[j].1 rs[j].2.2.length (marks (kAt k rs j) rs[j].2.2.length)
theorem Marked.of {w w1 : World} {k n : Nat} {rs : List R3} (h : Marked w k rs n) (hb : Below w.heap.size w w1) : Marked w1 k rs n := fun j hj hn => (h j hj hn).of hb
end Go.Proofs.YtbbjhepagkkjeaaGreatDoor
namespace Go.Proofs.YtbbjhepagkkjeaaGreatDoor
open Go Go.RowKit
abbrev Lt : Type := Nat → Nat × Nat × Nat
theorem ownsRow_butB {S : Nat → Prop} {w w1 : World} {B e size n : Nat} {v : Value} {xs : List Value} (h : w.ownsRow B e size v n xs) (hb : ButB S w w1) (hn : ∀ g, v.ownBlock = some g → ¬ S g) : w1.ownsRow B e size v n xs := by
  refine ⟨h.1, ?_⟩
  rcases h.2 with h0 | ⟨g, cap, cur, h1, h2, h3, h4⟩
  · exact Or.inl h0
  · exact Or.inr ⟨g, cap, cur, h1, h2, by rw [hb.block g (Array.getElem?_eq_some_iff.1 h3).1 (hn g (by rw [h1]; rfl))]; exact h3, h4⟩
theorem OwnRow.butB {S : Nat → Prop} {w w1 : World} {g n : Nat} {xs : List V2} (h : OwnRow w g n xs) (hb : ButB S w w1) (hn : ¬ S g) : OwnRow w1 g n xs :=
  ⟨Nat.lt_of_lt_of_le h.size hb.size, fun o => (hb.frz g o h.size hn).trans (h.frz o), fun o ho => by rw [hb.cell g o h.size hn]; exact h.all o ho, fun i x hx => by
    rw [hb.cell g _ h.size hn, hb.cell g _ h.size hn]; exact h.held i x hx⟩
def RowsL (w : World) (lab : Lt) (B i : Nat) (u : Value) (rs : List R3) : Prop :=
  w.ownsRow B 52 1 u rs.length (rs.map rv) ∧ (∀ G, u.ownBlock = some G → lab G = (0, i, 0)) ∧ ∀ j r, rs[j]? = some r → lab r.1 = (1, i, j) ∧ OwnRow w r.1 r.2.2.length r.2.2 ∧ r.2.2.length ≤ r.2.1
theorem RowsL.butB {S : Nat → Prop} {w w1 : World} {lab : Lt} {B i : Nat} {u : Value} {rs : List R3} (h : RowsL w lab B i u rs) (hb : ButB S w w1) (hn : ∀ b, (lab b).1 ≤ 1 → (lab b).2.1 = i → ¬ S b) : RowsL w1 lab B i u rs :=
  ⟨ownsRow_butB h.1 hb (fun g e => hn g (by rw [h.2.1 g e]; simp) (by rw [h.2.1 g e])), h.2.1, fun j r hr => by
    obtain ⟨h1, h2, h3⟩ := h.2.2 j r hr
    exact ⟨h1, h2.butB hb (hn _ (by rw [h1]; simp) (by rw [h1])), h3⟩⟩
theorem RowsL.relab {w : World} {lab lab' : Lt} {B i : Nat} {u : Value} {rs : List R3} (h : RowsL w lab B i u rs) (hl : ∀ b, (lab b).1 ≤ 1 → lab' b = lab b) : RowsL w lab' B i u rs :=
  ⟨h.1, fun G e => by rw [hl G (by rw [h.2.1 G e]; simp)]; exact h.2.1 G e, fun j r hr => by
    obtain ⟨h1, h2, h3⟩ := h.2.2 j r hr
    exact ⟨by rw [hl _ (by rw [h1]; simp)]; exact h1, h2, h3⟩⟩
structure TabG (w : World) (lab : Lt) (B : Nat) (v : Value) (cs : List Value) (ts : List Tb) : Prop where
  own : w.ownsRow B 32 3 v ts.length cs
  rng : ∀ b, (lab b).1 ≤ 1 → B ≤ b ∧ b < w.heap.size ∧ v.ownBlock ≠ some b
  tab : ∀ i t, ts[i]? = some t → ∃ (u : Value) (rs : List R3), cs[i * 3]? = some (.string t.Name) ∧ cs[i * 3 + 1]? = some (.int .i64 t.Cols) ∧ cs[i * 3 + 2]? = some u ∧ rs.map kR = t.Rows ∧ RowsL w lab B i u rs
theorem TabG.butB {S : Nat → Prop} {w w1 : World} {lab : Lt} {B : Nat} {v : Value} {cs : List Value} {ts : List Tb} (h : TabG w lab B v cs ts) (hb : ButB S w w1) (hv : ∀ g, v.ownBlock = some g → ¬ S g) (hl : ∀ b, (lab b).1 ≤ 1 → ¬ S b) : TabG w1 lab B v cs ts :=
  ⟨ownsRow_butB h.own hb hv, fun b e => ⟨(h.rng b e).1, Nat.lt_of_lt_of_le (h.rng b e).2.1 hb.size, (h.rng b e).2.2⟩, fun i t ht => by
    obtain ⟨u, rs, c0, c1, c2, hm, hr⟩ := h.tab i t ht
    exact ⟨u, rs, c0, c1, c2, hm, hr.butB hb (fun b e _ => hl b e)⟩⟩
theorem TabG.of {w w1 : World} {lab : Lt} {B : Nat} {v : Value} {cs : List Value} {ts : List Tb} (h : TabG w lab B v cs ts) (hb : Below w.heap.size w w1) : TabG w1 lab B v cs ts :=
  h.butB (S := fun _ => False) (ButB.ofBelow hb) (fun _ _ e => e) (fun _ _ e => e)
theorem TabG.nil (w : World) (B : Nat) : TabG w (fun _ => (9, 0, 0)) B (.slice none 0 0) [] [] :=
  ⟨World.ownsRow_nil w B _ 3, fun b e => by simp at e, fun i t ht => by simp at ht⟩
theorem TabG.nil' {w : World} {B g : Nat} (h : w.ownsRow B 32 3 (.slice (some ⟨g, 0, none⟩) 0 0) 0 []) : TabG w (fun _ => (9, 0, 0)) B (.slice (some ⟨g, 0, none⟩) 0 0) [] [] :=
  ⟨h, fun b e => by simp at e, fun i t ht => by simp at ht⟩
theorem TabG.blk {w : World} {lab : Lt} {B : Nat} {v : Value} {cs : List Value} {ts : List Tb} (h : TabG w lab B v cs ts) (g : Nat) (hg : v.ownBlock = some g) : B ≤ g ∧ g < w.heap.size ∧ ¬ (lab g).1 ≤ 1 :=
  ⟨(h.own.lt g hg).1, (h.own.lt g hg).2, fun e => (h.rng g e).2.2 hg⟩
theorem TabG.slice {w : World} {lab : Lt} {B : Nat} {v : Value} {cs : List Value} {ts : List Tb} (h : TabG w lab B v cs ts) : ∃ a c, v = .slice a ts.length c := by
  rcases h.own.2 with ⟨h1, h2⟩ | ⟨g, cap, cur, h1, _⟩
  · exact ⟨none, 0, by rw [h1, h2]⟩
  · exact ⟨_, _, h1⟩
def labS (lab : Lt) (s : Nat) (x : Nat × Nat × Nat) : Lt := fun b => if b < s then lab b else if b = s then x else (9, 0, 0)
theorem TabG.push {w w2 : World} {lab lab' : Lt} {B g2 c2 : Nat} {v u : Value} {cs : List Value} {ts : List Tb} {N : ByteArray} {C : Int} (h : TabG w lab B v cs ts)
    (hlab : ∀ b, (lab b).1 ≤ 1 → lab' b = lab b) (hnew : ∀ b, (lab' b).1 ≤ 1 → (lab b).1 ≤ 1 ∨ (lab' b = (0, ts.length, 0) ∧ B ≤ b ∧ b < w.heap.size ∧ v.ownBlock ≠ some b))
    (hu : w.ownsRow B 52 1 u 0 []) (hul : ∀ G, u.ownBlock = some G → lab' G = (0, ts.length, 0))
    (hown : w2.ownsRow B 32 3 (.slice (some ⟨g2, 0, none⟩) (ts.length + 1) c2) (ts.length + 1) (cs ++ [.string N, .int .i64 C, u])) (hgr : w.grownBy w2 v.ownBlock) (hat : v.ownBlock = some g2 ∨ g2 = w.heap.size) :
    TabG w2 lab' B (.slice (some ⟨g2, 0, none⟩) (ts.length + 1) c2) (cs ++ [.string N, .int .i64 C, u]) (ts ++ [⟨N, C, []⟩]) := by
  have hB : ButB (fun b => v.ownBlock = some b) w w2 := ButB.grown hgr (fun b e => e)
  have hk : ∀ b, (lab' b).1 ≤ 1 → B ≤ b ∧ b < w.heap.size ∧ v.ownBlock ≠ some b := fun b e => by
    rcases hnew b e with h1 | h1
    · exact h.rng b h1
    · exact h1.2
  have hlen := h.own.1
  refine ⟨by simpa using hown, fun b e => ?_, fun i t ht => ?_⟩
  · obtain ⟨k1, k2, k3⟩ := hk b e
    refine ⟨k1, Nat.lt_of_lt_of_le k2 hB.size, fun e' => ?_⟩
    simp [Value.ownBlock] at e'
    subst e'
    rcases hat with h1 | h1
    · exact k3 h1
    · omega
  · by_cases hi : i < ts.length
    · rw [List.getElem?_append_left hi] at ht
      obtain ⟨u', rs, c0, c1, c2, hm, hr⟩ := h.tab i t ht
      have hx : ∀ (o : Nat) x, cs[o]? = some x → (cs ++ [.string N, .int .i64 C, u])[o]? = some x := fun o x e => by
        rw [List.getElem?_append_left (List.getElem?_eq_some_iff.1 e).1]; exact e
      exact ⟨u', rs, hx _ _ c0, hx _ _ c1, hx _ _ c2, hm, (hr.relab hlab).butB hB (fun b e _ e' => (hk b e).2.2 e')⟩
    · have hi1 := (List.getElem?_eq_some_iff.1 ht).1
      simp at hi1
      obtain rfl : i = ts.length := by omega
      rw [List.getElem?_append_right (Nat.le_refl _)] at ht
      simp at ht
      subst ht
      have hx : ∀ (o : Nat), (cs ++ [.string N, .int .i64 C, u])[ts.length * 3 + o]? = [.string N, .int .i64 C, u][o]? := fun o => by
        rw [List.getElem?_append_right (by omega), hlen]; congr 1; omega
      refine ⟨u, [], hx 0, hx 1, hx 2, rfl, ownsRow_butB hu hB (fun G e e' => ?_), hul, fun j r hr => by simp at hr⟩
      have := hk G (by rw [hul G e]; simp)
      exact this.2.2 e'
def addR (ts : List Tb) (xs : List V2) : List Tb := ts.dropLast ++ (ts.getLast?.map fun t => ⟨t.Name, t.Cols, t.Rows ++ [xs]⟩).toList
theorem addR_snoc (ts : List Tb) (t : Tb) (xs : List V2) : addR (ts ++ [t]) xs = ts ++ [⟨t.Name, t.Cols, t.Rows ++ [xs]⟩] := by
  simp [addR]
theorem addR_length (ts : List Tb) (xs : List V2) : (addR ts xs).length = ts.length := by
  unfold addR
  cases hl : ts.getLast? with
  | none => rw [List.getLast?_eq_none_iff] at hl; subst hl; rfl
  | some t =>
    have hne : ts ≠ [] := fun e => by rw [e] at hl; simp at hl
    have := List.length_pos_iff.2 hne
    simp; omega
theorem TabG.addRow {w w2 w3 : World} {lab lab' : Lt} {B g cap G2 c2 : Nat} {u : Value} {rs : List R3} {r : R3} {cs : List Value} {ts : List Tb} {t : Tb}
    (h : TabG w lab B (.slice (some ⟨g, 0, none⟩) (ts.length + 1) cap) cs (ts ++ [t])) (hm : rs.map kR = t.Rows) (hr : RowsL w lab B ts.length u rs)
    (hlab : ∀ b, (lab b).1 ≤ 1 → lab' b = lab b) (hnew : ∀ b, (lab' b).1 ≤ 1 → (lab b).1 ≤ 1 ∨ (((lab' b = (1, ts.length, rs.length) ∧ b < w.heap.size) ∨ (lab' b = (0, ts.length, 0) ∧ b = G2)) ∧ B ≤ b ∧ b ≠ g))
    (hrow : OwnRow w r.1 r.2.2.length r.2.2) (hrl : r.2.2.length ≤ r.2.1) (hrb : u.ownBlock ≠ some r.1) (hr1 : lab' r.1 = (1, ts.length, rs.length)) (hG : lab' G2 = (0, ts.length, 0))
    (hown : w2.ownsRow B 52 1 (.slice (some ⟨G2, 0, none⟩) (rs.length + 1) c2) (rs.length + 1) (rs.map rv ++ [rv r])) (hgr : w.grownBy w2 u.ownBlock)
    (hw3 : w3 = w2.setCell ⟨g, ts.length * 3 + 2, none⟩ (.slice (some ⟨G2, 0, none⟩) (rs.length + 1) c2)) :
    TabG w3 lab' B (.slice (some ⟨g, 0, none⟩) (ts.length + 1) cap) (cs.set (ts.length * 3 + 2) (.slice (some ⟨G2, 0, none⟩) (rs.length + 1) c2)) (ts ++ [⟨t.Name, t.Cols, t.Rows ++ [kR r]⟩]) := by
  have hgb := h.blk g rfl
  have hB : ButB (fun b => u.ownBlock = some b) w w2 := ButB.grown hgr (fun b e => e)
  have hgu : ¬ u.ownBlock = some g := fun e => hgb.2.2 (by rw [hr.2.1 g e]; simp)
  have ho2 : w2.ownsRow B 32 3 (.slice (some ⟨g, 0, none⟩) (ts ++ [t]).length cap) (ts ++ [t]).length cs := by
    have := ownsRow_butB h.own hB (fun g' e => by simp [Value.ownBlock] at e; rw [← e]; exact hgu)
    simpa using this
  obtain ⟨ho3, hg3⟩ := ho2.stored (ts.length * 3 + 2) (.slice (some ⟨G2, 0, none⟩) (rs.length + 1) c2)
  rw [← hw3] at ho3 hg3
  have hB3 : ButB (fun b => b = g) w2 w3 := ButB.grown hg3 (fun b e => by simpa using e.symm)
  have hG2l := hown.lt G2 rfl
  have hclen := h.own.1
  simp at hclen
  have hsz3 : w2.heap.size ≤ w3.heap.size := hB3.size
  have hkk : ∀ b, (lab' b).1 ≤ 1 → B ≤ b ∧ b < w2.heap.size ∧ b ≠ g := fun b e => by
    rcases hnew b e with h1 | ⟨h1, h2, h3⟩
    · have := h.rng b h1
      exact ⟨this.1, Nat.lt_of_lt_of_le this.2.1 hB.size, fun e' => by rw [e'] at this; exact this.2.2 rfl⟩
    · refine ⟨h2, ?_, h3⟩
      rcases h1 with h1 | h1
      · exact Nat.lt_of_lt_of_le h1.2 hB.size
      · rw [h1.2]; exact hG2l.2
  refine ⟨by simpa using ho3, fun b e => ?_, fun i t' ht => ?_⟩
  · obtain ⟨k1, k2, k3⟩ := hkk b e
    exact ⟨k1, by omega, fun e' => k3 (by simpa [Value.ownBlock] using e'.symm)⟩
  · by_cases hi : i < ts.length
    · rw [List.getElem?_append_left hi] at ht
      obtain ⟨u', rs', c0, c1, c2, hm', hr'⟩ := h.tab i t' (by rw [List.getElem?_append_left hi]; exact ht)
      refine ⟨u', rs', by rw [List.getElem?_set_ne (by omega)]; exact c0, by rw [List.getElem?_set_ne (by omega)]; exact c1, by rw [List.getElem?_set_ne (by omega)]; exact c2, hm', ?_⟩
      have h1 := hr'.butB hB (fun b e1 e2 e3 => by rw [hr.2.1 b e3] at e2; simp at e2; omega)
      have h2 := h1.butB hB3 (fun b e1 e2 e3 => by rw [e3] at e1; exact hgb.2.2 e1)
      exact h2.relab hlab
    · have hi1 := (List.getElem?_eq_some_iff.1 ht).1
      simp at hi1
      obtain rfl : i = ts.length := by omega
      obtain ⟨u', rs', c0, c1, _, _, _⟩ := h.tab ts.length t (by simp)
      rw [List.getElem?_append_right (Nat.le_refl _)] at ht
      simp at ht
      subst ht
      refine ⟨.slice (some ⟨G2, 0, none⟩) (rs.length + 1) c2, rs ++ [r], by rw [List.getElem?_set_ne (by omega)]; exact c0, by rw [List.getElem?_set_ne (by omega)]; exact c1, by rw [List.getElem?_set_self (by omega)], by simp [hm], ?_⟩
      have hown3 := ownsRow_butB hown hB3 (fun b e e' => by
        simp [Value.ownBlock] at e
        have := hkk G2 (by rw [hG]; simp)
        omega)
      refine ⟨by simpa using hown3, fun G e => by simp [Value.ownBlock] at e; rw [← e]; exact hG, fun j q hq => ?_⟩
      by_cases hj : j < rs.length
      · rw [List.getElem?_append_left hj] at hq
        obtain ⟨l1, l2, l3⟩ := hr.2.2 j q hq
        have l4 := hlab q.1 (by rw [l1]; simp)
        refine ⟨by rw [l4]; exact l1, (l2.butB hB (fun e => ?_)).butB hB3 (fun e => ?_), l3⟩
        · have := hr.2.1 q.1 e
          rw [l1] at this; simp at this
        · rw [e] at l1; exact hgb.2.2 (by rw [l1]; simp)
      · have hj1 := (List.getElem?_eq_some_iff.1 hq).1
        simp at hj1
        obtain rfl : j = rs.length := by omega
        rw [List.getElem?_append_right (Nat.le_refl _)] at hq
        simp at hq
        subst hq
        refine ⟨hr1, (hrow.butB hB hrb).butB hB3 (fun e => ?_), hrl⟩
        have := hkk r.1 (by rw [hr1]; simp)
        omega
end Go.Proofs.YtbbjhepagkkjeaaGreatDoor
namespace Go.Proofs.YtbbjhepagkkjeaaGreatDoor
open Go
abbrev kSELECT : List UInt8 := [83, 69, 76, 69, 67, 84]
abbrev kDISTINCT : List UInt8 := [68, 73, 83, 84, 73, 78, 67, 84]
abbrev kFROM : List UInt8 := [70, 82, 79, 77]
abbrev kWHERE : List UInt8 := [87, 72, 69, 82, 69]
abbrev kUNION : List UInt8 := [85, 78, 73, 79, 78]
abbrev kALL : List UInt8 := [65, 76, 76]
abbrev kANY : List UInt8 := [65, 78, 89]
abbrev kAND : List UInt8 := [65, 78, 68]
abbrev kOR : List UInt8 := [79, 82]
abbrev kNOT : List UInt8 := [78, 79, 84]
abbrev kEXISTS : List UInt8 := [69, 88, 73, 83, 84, 83]
abbrev kIN : List UInt8 := [73, 78]
abbrev kIS : List UInt8 := [73, 83]
abbrev kNULL : List UInt8 := [78, 85, 76, 76]
abbrev kCOUNT : List UInt8 := [67, 79, 85, 78, 84]
abbrev kMIN : List UInt8 := [77, 73, 78]
abbrev kMAX : List UInt8 := [77, 65, 88]
abbrev kOpen : List UInt8 := [40]
abbrev kShut : List UInt8 := [41]
abbrev kComma : List UInt8 := [44]
abbrev kDot : List UInt8 := [46]
abbrev kStar : List UInt8 := [42]
def comp (m : Int) : List UInt8 := if m = 1 then [61] else if m = 2 then [60, 62] else if m = 3 then [60] else if m = 4 then [60, 61] else if m = 5 then [62] else [62, 61]
def aggw (m : Int) : List UInt8 := if m = 3 then kMIN else if m = 4 then kMAX else kCOUNT
def iL (sep : List (List UInt8)) : List (List (List UInt8)) → List (List UInt8)
  | [] => []
  | [x] => x
  | x :: y :: r => x ++ sep ++ iL sep (y :: r)
def brk (b : Bool) (ws : List (List UInt8)) : List (List UInt8) := if b then [kOpen] ++ ws ++ [kShut] else ws
def inB (K k : Int) : Bool := if K = 13 ∨ K = 14 then decide (k = 14) || decide (k = 15) else if K = 15 then decide (k = 15) else false
def notW (m : Int) : List (List UInt8) := if m = 1 then [kNOT] else []
def srcs (ks : List (Int × List (List UInt8))) : List (List (List UInt8)) := (ks.filter fun x => decide (x.1 = 5)).map (·.2)
def wher : List (Int × List (List UInt8)) → List (List UInt8)
  | [] => []
  | x :: r => if wher r = [] then (if x.1 = 5 then [] else [kWHERE] ++ x.2) else wher r
def tailW (ks : List (Int × List (List UInt8))) : List (List UInt8) := [kFROM] ++ iL [kComma] (srcs ks) ++ wher ks
def form (n : Nd) (ks : List (Int × List (List UInt8))) : List (List UInt8) :=
  let k0 := (ks.getD 0 (0, [])).2
  let k1 := (ks.getD 1 (0, [])).2
  if n.K = 1 then [Lib.itoa n.N]
  else if n.K = 2 then [kNULL]
  else if n.K = 3 then [n.S.toList, kDot, Lib.itoa n.N]
  else if n.K = 4 then [kOpen, kSELECT, aggw n.M, kOpen] ++ (if n.N = 0 then [kStar] else k0) ++ [kShut] ++ tailW (ks.drop n.N.toNat) ++ [kShut]
  else if n.K = 5 then (if n.S = n.T then [n.S.toList] else [n.S.toList, n.T.toList])
  else if n.K = 6 then [kSELECT] ++ (if n.M = 1 then [kDISTINCT] else []) ++ iL [kComma] ((ks.take n.N.toNat).map (·.2)) ++ tailW (ks.drop n.N.toNat)
  else if n.K = 7 then iL [kUNION, kALL] (ks.map (·.2))
  else if n.K = 8 then k0 ++ [comp n.M] ++ k1
  else if n.K = 9 then k0 ++ [kIS] ++ notW n.M ++ [kNULL]
  else if n.K = 10 then [kEXISTS, kOpen] ++ k0 ++ [kShut]
  else if n.K = 11 then k0 ++ notW n.M ++ [kIN, kOpen] ++ k1 ++ [kShut]
  else if n.K = 12 then k0 ++ [comp n.M, if n.N = 2 then kALL else kANY, kOpen] ++ k1 ++ [kShut]
  else if n.K = 13 then [kNOT] ++ k0
  else if n.K = 14 then iL [kAND] (ks.map (·.2))
  else iL [kOR] (ks.map (·.2))
def wd (ns : List Nd) : Nat → Nat → List (List UInt8)
  | 0, _ => []
  | f + 1, i => match ns[i]? with
    | none => []
    | some n => form n (n.Kids.map fun x => (kindAt ns x.toNat, brk (inB n.K (kindAt ns x.toNat)) (wd ns f x.toNat)))
def kw (ns : List Nd) (f : Nat) (n : Nd) : List (Int × List (List UInt8)) := n.Kids.map fun x => (kindAt ns x.toNat, brk (inB n.K (kindAt ns x.toNat)) (wd ns f x.toNat))
end Go.Proofs.YtbbjhepagkkjeaaGreatDoor
namespace Go.Proofs.YtbbjhepagkkjeaaGreatDoor
open Go
end Go.Proofs.YtbbjhepagkkjeaaGreatDoor
namespace Go.Proofs.YtbbjhepagkkjeaaGreatDoor
open Go
theorem nDig_le : ∀ (k u : Nat), u < 10 ^ (k + 1) → Lib.nDigits u ≤ k + 1
  | 0, u, h => by rw [Lib.nDigits_small (by simpa using h)]; omega
  | k + 1, u, h => by
    by_cases h9 : u < 10
    · rw [Lib.nDigits_small h9]; omega
    · rw [Lib.nDigits_big h9]
      have : u / 10 < 10 ^ (k + 1) := by
        rw [Nat.pow_succ] at h
        omega
      have := nDig_le k (u / 10) this
      omega
theorem NameFits.len {s : ByteArray} {b : Bool} (h : NameFits s b) : s.toList.length ≤ 64 := by
  unfold NameFits at h
  cases b
  · simp at h; rw [h]; simp
  · simp at h; rw [size_toList]; exact h.2.1
theorem IV.kids {ns : List Nd} (h : IV ns) : ∀ (i : Nat) (n : Nd), ns[i]? = some n → n.Kids.length ≤ 10000 ∧ ∀ x ∈ n.Kids, 0 ≤ x := fun i n hi => by
  have hlt : i < ns.length := (List.getElem?_eq_some_iff.1 hi).1
  obtain ⟨c, hc⟩ := h.seg.each i (Nat.zero_le _) hlt
  rw [kidsAt_some hi] at hc
  have := hc.len
  have h2 := h.hi
  refine ⟨by omega, fun x hx => ?_⟩
  obtain ⟨p, rfl, _, _⟩ := hc.kid x hx
  omega
end Go.Proofs.YtbbjhepagkkjeaaGreatDoor
namespace Go.Proofs.YtbbjhepagkkjeaaGreatDoor
open Go Go.RowKit
end Go.Proofs.YtbbjhepagkkjeaaGreatDoor
