import Derived.Test.YtbbjhepagkkjeaaGreatDoorQ30
import Derived.Test.YtbbjhepagkkjeaaGreatDoorQ1
import Derived.Deep.DeepCutAuto
import Derived.Test.YtbbjhepagkkjeaaGreatDoorQ3
import Derived.Test.YtbbjhepagkkjeaaGreatDoorQ11
import Derived.Test.YtbbjhepagkkjeaaGreatDoorQ2
import Derived.BigQuiet
import Derived.Test.YtbbjhepagkkjeaaGreatDoorQ5
namespace Go.Proofs.YtbbjhepagkkjeaaGreatDoor
open Go Go.RowKit
theorem RowAt.grown {w w2 : World} {g off : Nat} {xs : List V2} {row : Option Nat} (h : RowAt w g off xs) (hg : g < w.heap.size) (hgr : w.grownBy w2 row) (hne : some g ≠ row) : RowAt w2 g off xs := fun i x hx =>
  ⟨(hgr.cell_far ⟨g, off + i * 2, none⟩ hg hne).trans (h i x hx).1, (hgr.cell_far ⟨g, off + i * 2 + 1, none⟩ hg hne).trans (h i x hx).2⟩
theorem OwnRow.grown {w w2 : World} {g n : Nat} {xs : List V2} {row : Option Nat} (h : OwnRow w g n xs) (hgr : w.grownBy w2 row) (hne : some g ≠ row) : OwnRow w2 g n xs :=
  ⟨Nat.lt_of_lt_of_le h.size hgr.size, fun o => (hgr.frozen_far ⟨g, o, none⟩ h.size hne).trans (h.frz o), fun o ho => by
    obtain ⟨v, hv⟩ := h.all o ho
    exact ⟨v, (hgr.cell_far ⟨g, o, none⟩ h.size hne).trans hv⟩, h.held.grown h.size hgr hne⟩
theorem RowsOk.grown {w w2 : World} {rs : List R3} {row : Option Nat} (h : RowsOk w rs) (hgr : w.grownBy w2 row) (hne : ∀ r ∈ rs, some r.1 ≠ row) : RowsOk w2 rs := fun r hr => ⟨(h r hr).1.grown hgr (hne r hr), (h r hr).2⟩
def RowsR (w : World) (rs : List R3) : Prop := ∀ r ∈ rs, r.1 < w.heap.size ∧ RowAt w r.1 0 r.2.2
theorem RowsR.of {w w1 : World} {rs : List R3} (h : RowsR w rs) (hb : Below w.heap.size w w1) : RowsR w1 rs := fun r hr => ⟨Nat.lt_of_lt_of_le (h r hr).1 hb.size, (h r hr).2.of (h r hr).1 hb⟩
structure Made (w : World) (B G c : Nat) (rs : List R3) : Prop where
  own : OwnG w B G c rs
  rows : RowsOk w rs
  far : ∀ r ∈ rs, r.1 ≠ G
theorem Made.of {w w1 : World} {B G c : Nat} {rs : List R3} (h : Made w B G c rs) (hb : Below w.heap.size w w1) : Made w1 B G c rs := ⟨h.own.of hb, h.rows.of hb, h.far⟩
theorem Made.push {w w2 : World} {B G c G2 c2 n : Nat} {rs : List R3} {r : R3} (h : Made w B G c rs) (hl : rs.length = n) (hr : OwnRow w r.1 r.2.2.length r.2.2) (hrc : r.2.2.length ≤ r.2.1) (hne : r.1 ≠ G)
    (hown : w2.ownsRow B 52 1 (.slice (some ⟨G2, 0, none⟩) (n + 1) c2) (n + 1) (rs.map rv ++ [rv r])) (hgr : w.grownBy w2 (some G)) (hat : G2 = G ∨ G2 = w.heap.size) : Made w2 B G2 c2 (rs ++ [r]) := by
  refine ⟨?_, ?_, ?_⟩
  · unfold OwnG
    rw [List.map_append, List.length_append, hl]
    exact hown
  · intro x hx
    rcases List.mem_append.1 hx with h' | h'
    · exact h.rows.grown hgr (fun y hy => by have := h.far y hy; simpa using this) x h'
    · simp only [List.mem_singleton] at h'
      subst h'
      exact ⟨hr.grown hgr (by simpa using hne), hrc⟩
  · intro x hx
    rcases List.mem_append.1 hx with h' | h'
    · have h1 := h.far x h'
      have h2 := (h.rows x h').1.size
      rcases hat with e | e <;> omega
    · simp only [List.mem_singleton] at h'
      subst h'
      have h2 := hr.size
      rcases hat with e | e <;> omega
end Go.Proofs.YtbbjhepagkkjeaaGreatDoor
namespace Go.Proofs.YtbbjhepagkkjeaaGreatDoor
open Go Go.RowKit
end Go.Proofs.YtbbjhepagkkjeaaGreatDoor
namespace Go.Proofs.YtbbjhepagkkjeaaGreatDoor
open Go Go.RowKit
end Go.Proofs.YtbbjhepagkkjeaaGreatDoor
namespace Go.Proofs.YtbbjhepagkkjeaaGreatDoor
open Go Go.RowKit
end Go.Proofs.YtbbjhepagkkjeaaGreatDoor
namespace Go.Proofs.YtbbjhepagkkjeaaGreatDoor
open Go Go.RowKit
end Go.Proofs.YtbbjhepagkkjeaaGreatDoor
namespace Go.Proofs.YtbbjhepagkkjeaaGreatDoor
open Go Go.RowKit
end Go.Proofs.YtbbjhepagkkjeaaGreatDoor
namespace Go.Proofs.YtbbjhepagkkjeaaGreatDoor
open Go Go.RowKit
def top (row : List V2) (ops : List O2) (k : Nat) : V2 := (stk row ops k).getD ((stk row ops k).length - 1) (false, 0)
end Go.Proofs.YtbbjhepagkkjeaaGreatDoor
namespace Go.Proofs.YtbbjhepagkkjeaaGreatDoor
open Go Go.RowKit
end Go.Proofs.YtbbjhepagkkjeaaGreatDoor
namespace Go.Proofs.YtbbjhepagkkjeaaGreatDoor
open Go Go.RowKit
end Go.Proofs.YtbbjhepagkkjeaaGreatDoor
namespace Go.Proofs.YtbbjhepagkkjeaaGreatDoor
open Go Go.RowKit
structure RB (B : Nat) (w : World) : Prop where
  c0 : ∃ v, w.cell? ⟨B, 0, none⟩ = some v
  c1 : ∃ v, w.cell? ⟨B, 1, none⟩ = some v
  frz : ∀ o, w.frozen? ⟨B, o, none⟩ = false
  sz : B < w.heap.size
theorem RB.of {B : Nat} {w w1 : World} (h : RB B w) (hb : Below w.heap.size w w1) : RB B w1 :=
  ⟨h.c0.imp fun _ hv => (hb.cell (p := ⟨B, 0, none⟩) h.sz).trans hv, h.c1.imp fun _ hv => (hb.cell (p := ⟨B, 1, none⟩) h.sz).trans hv, fun o => (hb.frozen (p := ⟨B, o, none⟩) h.sz).trans (h.frz o), Nat.lt_of_lt_of_le h.sz hb.size⟩
theorem RB.ofB {B b : Nat} {w w1 : World} (h : RB B w) (hb : Below b w w1) (hB : B < b) : RB B w1 :=
  ⟨h.c0.imp fun _ hv => (hb.cell (p := ⟨B, 0, none⟩) hB).trans hv, h.c1.imp fun _ hv => (hb.cell (p := ⟨B, 1, none⟩) hB).trans hv, fun o => (hb.frozen (p := ⟨B, o, none⟩) hB).trans (h.frz o), Nat.lt_of_lt_of_le h.sz hb.size⟩
end Go.Proofs.YtbbjhepagkkjeaaGreatDoor
namespace Go.Proofs.YtbbjhepagkkjeaaGreatDoor
open Go Go.RowKit
def SSortSaid (n : Nat) : Prop := ∀ (rs : List R3) (G off cap : Nat) (w : World), rs.length ≤ n → G < w.heap.size → GridAt w G off rs → RowsOk w rs → rs.length ≤ cap → rs.length ≤ 1048576 → (∀ r ∈ rs, r.2.2.length ≤ 1048576) →
    Calls Tryz.prog 10 #[.slice (some ⟨G, off, none⟩) rs.length cap] w fun e w' => ∃ G' cap' qs, e = .returned (.slice (some ⟨G', 0, none⟩) rs.length cap') ∧ OwnG w' w.heap.size G' cap' qs ∧ (RowsOk w' qs ∧ ∀ r ∈ qs, w.heap.size ≤ r.1) ∧ qs.map kR = msF (fun x => x) n (rs.map cleanR) ∧ Below w.heap.size w w'
theorem msF_small' {α : Type} (key : α → List V2) (n : Nat) (l : List α) (h : l.length < 2) : msF key n l = l := by cases n <;> simp [msF, h]
theorem OwnG.lit (w : World) (rs : List R3) (t : TypeId) (ht : t = 52) (hn : rs.length ≤ 1048576) : OwnG (w.alloc (.cells (rs.map rv).toArray t)) w.heap.size w.heap.size rs.length rs := by
  subst ht
  exact ⟨by simp, Or.inr ⟨w.heap.size, rs.length, _, rfl, Nat.le_refl _, (MapKept.heap_alloc w _).1, Nat.le_refl _, by unfold maxLen; omega, by simp, by simp only [Nat.mul_one]; rw [List.take_of_length_le (by simp)]⟩⟩
theorem ssort_zero (n : Nat) (G off cap : Nat) (w : World) :
    Calls Tryz.prog 10 #[.slice (some ⟨G, off, none⟩) 0 cap] w fun e w' => ∃ G' cap' qs, e = .returned (.slice (some ⟨G', 0, none⟩) 0 cap') ∧ OwnG w' w.heap.size G' cap' qs ∧ (RowsOk w' qs ∧ ∀ r ∈ qs, w.heap.size ≤ r.1) ∧ qs.map kR = msF (fun x => x) n (([] : List R3).map cleanR) ∧ Below w.heap.size w w' := by
  have H1 := hide (OwnG.lit w [] 52 rfl (by simp))
  go_enter Tryz.func10, Tryz.ntmps10
  go_wp2
  go_ret
  exact ⟨_, _, [], rfl, unhide H1, ⟨fun r hr => (by simp at hr), fun r hr => (by simp at hr)⟩, by rw [msF_small' _ n _ (by simp)]; rfl, bA (Below.refl _ _) _⟩
theorem ssort_one (n : Nat) (r : R3) (G off cap : Nat) (w : World) (hr : GridAt w G off [r]) (hro : RowsOk w [r]) (hb2 : r.2.2.length ≤ 1048576) :
    Calls Tryz.prog 10 #[.slice (some ⟨G, off, none⟩) 1 cap] w fun e w' => ∃ G' cap' qs, e = .returned (.slice (some ⟨G', 0, none⟩) 1 cap') ∧ OwnG w' w.heap.size G' cap' qs ∧ (RowsOk w' qs ∧ ∀ r ∈ qs, w.heap.size ≤ r.1) ∧ qs.map kR = msF (fun x => x) n ([r].map cleanR) ∧ Below w.heap.size w w' := by
  have e0 := hr 0 r rfl
  obtain ⟨r1, r2⟩ := hro r (by simp)
  obtain ⟨rg, rc, rx⟩ := r
  unfold rv at e0
  simp only [Nat.add_zero] at e0 r1 r2 hb2
  have LR := l1Row_calls rx rg 0 rc w r1.size r1.held hb2
  have HLR := hide LR
  clear LR
  go_enter Tryz.func10, Tryz.ntmps10
  go_wp2_with fail
  refine (unhide HLR).mono ?_; rintro e w1 ⟨g1, c1, rfl, ho1, hb1⟩
  have H1 := hide ((OwnG.lit w1 [(g1, c1, rx.map clnV)] 52 rfl (by simp)).mono hb1.size)
  have hal := bA (Below.refl w1.heap.size w1) (.cells ([(g1, c1, rx.map clnV)].map rv).toArray 52)
  have H2 : Hid (RowsOk (w1.alloc (.cells ([(g1, c1, rx.map clnV)].map rv).toArray 52)) [(g1, c1, rx.map clnV)]) := by
    intro r hr
    simp at hr
    subst hr
    exact ⟨(ho1.ownRow.of hal), ho1.lt.2.2.1⟩
  have hnew : w.heap.size ≤ g1 := ho1.lt.2.1
  have H3 := hide (bT hb1 hal)
  clear ho1 hal
  simp only [List.map_cons, List.map_nil, rv, List.length_map] at H1 H2 H3
  go_wp2
  go_ret
  exact ⟨_, _, [(g1, c1, rx.map clnV)], rfl, unhide H1, ⟨unhide H2, fun r hr => (by simp at hr; subst hr; exact hnew)⟩, by rw [msF_small' _ n _ (by simp)]; rfl, unhide H3⟩
end Go.Proofs.YtbbjhepagkkjeaaGreatDoor
