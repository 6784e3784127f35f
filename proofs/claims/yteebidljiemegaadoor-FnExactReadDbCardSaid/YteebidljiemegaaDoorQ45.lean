import Derived.Test.YteebidljiemegaaDoorDbKit
import Derived.Test.YteebidljiemegaaDoorQ17
import Derived.Test.YteebidljiemegaaDoorGridFns2
import Derived.OwnWalk
import Derived.Test.YteebidljiemegaaDoorQ44
import Derived.Test.YteebidljiemegaaDoorMarks2
import Derived.Deep.RegionHeld3
import Derived.Deep.DeepCutAuto
namespace Go.Proofs.YteebidljiemegaaDoor
open Go Go.RowKit
end Go.Proofs.YteebidljiemegaaDoor
namespace Go.Proofs.YteebidljiemegaaDoor
open Go Go.RowKit
theorem But.butM {S : Nat → Prop} {w w1 : World} (h : But S w w1) : ButM S w w1 := ⟨h.size, h.cell, h.frz, fun B hB _ => h.low B hB⟩
theorem OwnRow.butM {S : Nat → Prop} {w w1 : World} {g n : Nat} {xs : List V2} (h : OwnRow w g n xs) (hb : ButM S w w1) (hn : ¬ S g) : OwnRow w1 g n xs :=
  ⟨Nat.lt_of_lt_of_le h.size hb.size, fun o => (hb.frz g o h.size).trans (h.frz o), fun o ho => by rw [hb.cell g o h.size hn]; exact h.all o ho, fun i x hx => by
    rw [hb.cell g _ h.size hn, hb.cell g _ h.size hn]; exact h.held i x hx⟩
def TbRow (w : World) (g i : Nat) (t : Tb) (lo hi : Nat) : Prop := ∃ (G : Nat) (rs : List R3), w.cell? ⟨g, i * 3 + 2, none⟩ = some (.slice (some ⟨G, 0, none⟩) t.Rows.length t.Rows.length) ∧ rs.map (fun r : R3 => r.2.2) = t.Rows ∧ G < w.heap.size ∧ GridAt w G 0 rs ∧ RowsOk w rs ∧ (rs.map (fun r : R3 => r.1)).Nodup ∧ lo ≤ G ∧ G < hi ∧ ∀ r ∈ rs, G < r.1 ∧ r.1 < hi
theorem TbRow.but {w w1 : World} {g i : Nat} {t : Tb} {lo hi : Nat} {S : Nat → Prop} (h : TbRow w g i t lo hi) (hb : ButM S w w1) (hc : w1.cell? ⟨g, i * 3 + 2, none⟩ = w.cell? ⟨g, i * 3 + 2, none⟩) (hn : ∀ b, lo ≤ b → b < hi → ¬ S b) : TbRow w1 g i t lo hi := by
  obtain ⟨G, rs, h1, h2, h3, h4, h5, h6, h7, h8, h9⟩ := h
  refine ⟨G, rs, hc.trans h1, h2, Nat.lt_of_lt_of_le h3 hb.size, fun j r hr => (hb.cell G _ h3 (hn G h7 h8)).trans (h4 j r hr), fun r hr => ⟨(h5 r hr).1.butM hb (hn r.1 (by have := h9 r hr; omega) (h9 r hr).2), (h5 r hr).2⟩, h6, h7, h8, h9⟩
theorem TbRow.of {w w1 : World} {g i : Nat} {t : Tb} {lo hi : Nat} (h : TbRow w g i t lo hi) (hg : g < w.heap.size) (hb : Below w.heap.size w w1) : TbRow w1 g i t lo hi :=
  h.but (ButM.ofBelow (S := fun _ => False) hb) (hb.cell (p := ⟨g, i * 3 + 2, none⟩) hg) (fun _ _ _ h => h)
structure TbT (w : World) (lo : Nat → Nat) (B g k : Nat) (ts : List Tb) : Prop where
  g0 : B ≤ g
  g1 : g < lo 0
  mono : ∀ i j, i ≤ j → j ≤ k → lo i ≤ lo j
  top : lo k ≤ w.heap.size
  row : ∀ i t, (ts.take k)[i]? = some t → TbRow w g i t (lo i) (lo (i + 1))
end Go.Proofs.YteebidljiemegaaDoor
namespace Go.Proofs.YteebidljiemegaaDoor
open Go Go.RowKit
theorem TbT.put {wr w1 : World} {lo : Nat → Nat} {B g k G : Nat} {rs : List R3} {ts : List Tb} (h : TbT wr lo B g k ts) (hg : g < wr.heap.size) (hk : k < ts.length) (hb1 : Below wr.heap.size wr w1) (hG0 : wr.heap.size ≤ G)
    (hm : rs.map (fun r : R3 => r.2.2) = (ts[k]).Rows) (hG : G < w1.heap.size) (hgr : GridAt w1 G 0 rs) (hro : RowsOk w1 rs) (hnd : (rs.map (fun r : R3 => r.1)).Nodup) (hrl : ∀ r ∈ rs, G < r.1) (hall : ∀ o, o < 3 → ∃ v, w1.cell? ⟨g, k * 3 + o, none⟩ = some v) :
    TbT (putTable w1 g (k * 3) ts[k] G) (fun i => if i ≤ k then lo i else w1.heap.size) B g (k + 1) ts := by
  have hsz : (putTable w1 g (k * 3) ts[k] G).heap.size = w1.heap.size := by simp [putTable]
  have hle := hb1.size
  have htop := h.top
  have hBt : ButM (fun x => x = g) w1 (putTable w1 g (k * 3) ts[k] G) := by
    unfold putTable
    exact ((ButM.set (S := fun x => x = g) (ButM.refl _ _) rfl _).set rfl _).set rfl _
  refine ⟨h.g0, by rw [if_pos (Nat.zero_le _)]; exact h.g1, fun i j hij hj => ?_, by rw [if_neg (by omega), hsz]; exact Nat.le_refl _, fun i t ht => ?_⟩
  · by_cases h1 : j ≤ k
    · rw [if_pos h1, if_pos (by omega)]; exact h.mono i j hij h1
    · rw [if_neg h1]
      by_cases h2 : i ≤ k
      · rw [if_pos h2]; have := h.mono i k h2 (Nat.le_refl _); omega
      · rw [if_neg h2]; exact Nat.le_refl _
  · rw [take_snoc ts k hk] at ht
    have hl : (ts.take k).length = k := by simp; omega
    by_cases hi : i < k
    · rw [List.getElem?_append_left (by omega)] at ht
      rw [if_pos (by omega), if_pos (by omega)]
      have h1 := (h.row i t ht).of hg hb1
      have hml := h.mono (i + 1) k (by omega) (Nat.le_refl _)
      have hm0 := h.mono 0 i (by omega) (by omega)
      have hg1 := h.g1
      refine h1.but hBt ?_ (fun b hb1 hb2 e => by omega)
      unfold putTable
      rw [setCell_other (by omega), setCell_other (by omega), setCell_other (by omega)]
    · obtain rfl : i = k := by
        have := (List.getElem?_eq_some_iff.1 ht).1
        simp at this; omega
      rw [List.getElem?_append_right (by omega)] at ht
      simp [hl] at ht
      subst ht
      rw [if_pos (Nat.le_refl _), if_neg (by omega)]
      obtain ⟨v2, c2⟩ := hall 2 (by omega)
      refine ⟨G, rs, ?_, hm, by rw [hsz]; exact hG, fun j r hr => (hBt.cell G _ hG (by omega)).trans (hgr j r hr), fun r hr => ⟨(hro r hr).1.butM hBt (by have := hrl r hr; omega), (hro r hr).2⟩, hnd, by omega, hG, fun r hr => ⟨hrl r hr, (hro r hr).1.size⟩⟩
      unfold putTable
      exact World.cell?_setCell_same _ _ _ (by rw [setCell_other (by omega), setCell_other (by omega)]; exact c2)
structure DbM (w : World) (lo : Nat → Nat) (B T g : Nat) (ts : List Tb) : Prop where
  size : g < w.heap.size
  frz : ∀ o, w.frozen? ⟨g, o, none⟩ = false
  all : ∀ o, o < ts.length * 3 → ∃ v, w.cell? ⟨g, o, none⟩ = some v
  tab : TbT w lo B g ts.length ts
  low : lo ts.length ≤ T
theorem DbM.of {w w1 : World} {lo : Nat → Nat} {B T g : Nat} {ts : List Tb} (h : DbM w lo B T g ts) (hb : Below w.heap.size w w1) : DbM w1 lo B T g ts :=
  ⟨Nat.lt_of_lt_of_le h.size hb.size, fun o => (hb.frozen (p := ⟨g, o, none⟩) h.size).trans (h.frz o), fun o ho => by
    obtain ⟨v, hv⟩ := h.all o ho
    exact ⟨v, (hb.cell (p := ⟨g, o, none⟩) h.size).trans hv⟩, ⟨h.tab.g0, h.tab.g1, h.tab.mono, Nat.le_trans h.tab.top hb.size, fun i t ht => (h.tab.row i t ht).of h.size hb⟩, h.low⟩
theorem DbM.but {w w1 : World} {lo : Nat → Nat} {B T g : Nat} {ts : List Tb} {S : Nat → Prop} (h : DbM w lo B T g ts) (hb : ButM S w w1) (hn : ∀ b, B ≤ b → b < T → ¬ S b) : DbM w1 lo B T g ts := by
  have hgT : g < T := by have := h.tab.g1; have := h.tab.mono 0 ts.length (Nat.zero_le _) (Nat.le_refl _); have := h.low; omega
  have hg : ¬ S g := hn g h.tab.g0 hgT
  refine ⟨Nat.lt_of_lt_of_le h.size hb.size, fun o => (hb.frz g o h.size).trans (h.frz o), fun o ho => by rw [hb.cell g o h.size hg]; exact h.all o ho, ⟨h.tab.g0, h.tab.g1, h.tab.mono, Nat.le_trans h.tab.top hb.size, fun i t ht => ?_⟩, h.low⟩
  have hi : i < ts.length := by have := (List.getElem?_eq_some_iff.1 ht).1; simp at this; omega
  have h1 := h.tab.mono 0 i (Nat.zero_le _) (by omega)
  have h2 := h.tab.mono (i + 1) ts.length (by omega) (Nat.le_refl _)
  have h3 := h.tab.g1
  have h4 := h.tab.g0
  have h5 := h.low
  exact (h.tab.row i t ht).but hb (hb.cell g _ h.size hg) (fun b e1 e2 => hn b (by omega) (by omega))
def kTs : List Tb → Nat
  | [] => 0
  | t :: r => 2 + 2 * bulk t.Rows + kTs r
theorem kTs_append (a b : List Tb) : kTs (a ++ b) = kTs a + kTs b := by
  induction a with
  | nil => simp [kTs]
  | cons x a ih => simp only [List.cons_append, kTs, ih]; omega
theorem kTs_take (ts : List Tb) (k : Nat) (hk : k < ts.length) : kTs (ts.take (k + 1)) = kTs (ts.take k) + (2 + 2 * bulk (ts[k]).Rows) := by
  rw [take_snoc ts k hk, kTs_append]; simp [kTs]
theorem kTs_take_le (ts : List Tb) (k : Nat) : kTs (ts.take k) ≤ kTs ts := by
  have := kTs_append (ts.take k) (ts.drop k)
  rw [List.take_append_drop] at this
  omega
end Go.Proofs.YteebidljiemegaaDoor
