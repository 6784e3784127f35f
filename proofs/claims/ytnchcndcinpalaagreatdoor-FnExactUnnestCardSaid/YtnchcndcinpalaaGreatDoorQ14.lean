import Derived.Test.YtnchcndcinpalaaGreatDoorQ13
import Derived.Test.YtnchcndcinpalaaGreatDoorQ12
import Derived.Test.YtnchcndcinpalaaGreatDoorQ10
import Derived.Deep.AppendLies
import Derived.Deep.RegionLaw
namespace Go.Proofs.YtnchcndcinpalaaGreatDoor
open Go Go.RowKit
structure Keeps (s : Nat) (w w' : World) : Prop where
  size : w.heap.size ≤ w'.heap.size
  cell : ∀ b o, s ≤ b → b < w.heap.size → w'.cell? ⟨b, o, none⟩ = w.cell? ⟨b, o, none⟩
theorem Keeps.refl (s : Nat) (w : World) : Keeps s w w := ⟨Nat.le_refl _, fun _ _ _ _ => rfl⟩
theorem Keeps.of {s : Nat} {w w1 w2 : World} (h : Keeps s w w1) (hb : Below w1.heap.size w1 w2) : Keeps s w w2 :=
  ⟨Nat.le_trans h.size hb.size, fun b o h1 h2 => (hb.cell (p := ⟨b, o, none⟩) (Nat.lt_of_lt_of_le h2 h.size)).trans (h.cell b o h1 h2)⟩
theorem Keeps.set {s : Nat} {w w1 : World} (h : Keeps s w w1) {X O : Nat} (hX : X < s ∨ w.heap.size ≤ X) (v : Value) : Keeps s w (w1.setCell ⟨X, O, none⟩ v) :=
  ⟨by simpa using h.size, fun b o h1 h2 => by rw [setCell_farN (by omega)]; exact h.cell b o h1 h2⟩
theorem OpsM.keeps {s : Nat} {w w' : World} {u : Value} {xs : List O2} {S : Nat → Prop} (h : OpsM w u xs S) (hS : ∀ b, S b → s ≤ b) (hk : Keeps s w w') : IsOps w' u xs := by
  rcases h with h | ⟨b, c, h1, h2, h3, h4⟩
  · exact Or.inl h
  · refine Or.inr ⟨b, 0, c, h1, h2, Nat.lt_of_lt_of_le h4.size hk.size, fun i x hx => ?_⟩
    have := h4.held i x hx
    exact ⟨(hk.cell b _ (hS b h3) h4.size).trans this.1, (hk.cell b _ (hS b h3) h4.size).trans this.2⟩
theorem OpssM.keeps {s : Nat} {w w' : World} {u : Value} {oss : List (List O2)} {So : Nat → Prop} {Si : Nat → Nat → Prop} (h : OpssM w u oss So Si) (hS : ∀ b, So b → s ≤ b) (hT : ∀ i b, Si i b → s ≤ b) (hk : Keeps s w w') : IsOpss w' u oss := by
  rcases h with h | ⟨o, c, h1, h2, h3, h4⟩
  · exact Or.inl h
  · refine Or.inr ⟨o, 0, c, h1, Nat.lt_of_lt_of_le h3 hk.size, fun i xs hx => ?_⟩
    obtain ⟨u', hu, hr⟩ := h4 i xs hx
    exact ⟨u', by rw [Nat.zero_add]; exact (hk.cell o i (hS o h2) h3).trans hu, hr.keeps (hT i) hk⟩
theorem FlM.keeps {s : Nat} {w w' : World} {lab : Lb} {G : Nat} {fs : List Fn} (h : FlM w lab G fs) (hl : ∀ b, (lab b).1 ≤ 3 → s ≤ b) (hk : Keeps s w w') (cap : Nat) : IsFns w' (.slice (some ⟨G, 0, none⟩) fs.length cap) fs := by
  have hG : s ≤ G := hl G (by rw [h.lab3]; omega)
  refine Or.inr ⟨G, 0, cap, rfl, Nat.lt_of_lt_of_le h.size hk.size, fun i p hp => ?_⟩
  obtain ⟨c0, c1, c2, c3, c6, c7, ⟨u, c4, h4⟩, u', c5, h5⟩ := h.node i p hp
  rw [Nat.zero_add]
  have k := fun o => hk.cell G o hG h.size
  exact ⟨(k _).trans c0, (k _).trans c1, (k _).trans c2, (k _).trans c3, (k _).trans c6, (k _).trans c7, ⟨u, (k _).trans c4, h4.keeps (fun b e => hl b (by rw [e]; omega)) hk⟩, u', (k _).trans c5, h5.keeps (fun b e => hl b (by rw [e]; omega)) (fun j b e => hl b (by rw [e]; omega)) hk⟩
def vFn (p : Fn) (u4 u5 : Value) : List Value := [.int .i64 p.K, .int .i64 p.T, .int .i64 p.M, .int .i64 p.W, u4, u5, .int .i64 p.L, .int .i64 p.R]
end Go.Proofs.YtnchcndcinpalaaGreatDoor
namespace Go.Proofs.YtnchcndcinpalaaGreatDoor
open Go Go.RowKit
structure ButB (S : Nat → Prop) (w w' : World) : Prop where
  os : w'.os = w.os
  tape : w'.tape = w.tape
  output : w'.output = w.output
  size : w.heap.size ≤ w'.heap.size
  block : ∀ k, k < w.heap.size → ¬ S k → w'.heap[k]? = w.heap[k]?
theorem ButB.refl (S : Nat → Prop) (w : World) : ButB S w w := ⟨rfl, rfl, rfl, Nat.le_refl _, fun _ _ _ => rfl⟩
theorem ButB.trans {S : Nat → Prop} {w w1 w2 : World} (h : ButB S w w1) (h' : ButB S w1 w2) : ButB S w w2 :=
  ⟨h'.os.trans h.os, h'.tape.trans h.tape, h'.output.trans h.output, Nat.le_trans h.size h'.size, fun k hk hs => (h'.block k (Nat.lt_of_lt_of_le hk h.size) hs).trans (h.block k hk hs)⟩
theorem ButB.trans' {S T : Nat → Prop} {w w1 w2 : World} (h : ButB S w w1) (h' : ButB T w1 w2) (hT : ∀ b, T b → S b ∨ w.heap.size ≤ b) : ButB S w w2 :=
  ⟨h'.os.trans h.os, h'.tape.trans h.tape, h'.output.trans h.output, Nat.le_trans h.size h'.size, fun k hk hs => (h'.block k (Nat.lt_of_lt_of_le hk h.size) (fun ht => (hT k ht).elim hs (fun h1 => absurd hk (by omega)))).trans (h.block k hk hs)⟩
theorem ButB.mono {S T : Nat → Prop} {w w1 : World} (h : ButB S w w1) (hs : ∀ b, S b → T b) : ButB T w w1 := ⟨h.os, h.tape, h.output, h.size, fun k hk ht => h.block k hk (fun e => ht (hs k e))⟩
theorem ButB.ofBelow {S : Nat → Prop} {w w1 : World} (h : Below w.heap.size w w1) : ButB S w w1 := ⟨h.os, h.tape, h.output, h.size, fun k hk _ => h.block k hk⟩
theorem ButB.below {S : Nat → Prop} {w w1 : World} (h : ButB S w w1) {B : Nat} (hB : B ≤ w.heap.size) (hs : ∀ b, S b → B ≤ b) : Below B w w1 := ⟨h.os, h.tape, h.output, h.size, fun k hk => h.block k (by omega) (fun e => by have := hs k e; omega)⟩
theorem ButB.grown {S : Nat → Prop} {w w1 : World} {row : Option Nat} (hg : w.grownBy w1 row) (hr : ∀ b, row = some b → S b) : ButB S w w1 := ⟨hg.os, hg.tape, hg.output, hg.size, fun k hk hs => hg.block k hk (fun e => hs (hr k e.symm))⟩
theorem ButB.set {S : Nat → Prop} {w w1 : World} (h : ButB S w w1) {g o : Nat} (hg : S g ∨ w.heap.size ≤ g) (v : Value) : ButB S w (w1.setCell ⟨g, o, none⟩ v) := by
  have hb : Below g w1 (w1.setCell ⟨g, o, none⟩ v) := (Below.refl g w1).setCell (p := ⟨g, o, none⟩) (Nat.le_refl _) v
  exact ⟨hb.os.trans h.os, hb.tape.trans h.tape, hb.output.trans h.output, Nat.le_trans h.size hb.size, fun k hk hs => by
    rw [Below.heap_setCell w1 ⟨g, o, none⟩ v k (by dsimp only; intro e; subst e; exact hg.elim hs (fun h1 => absurd hk (by omega)))]
    exact h.block k hk hs⟩
theorem ButB.cell {S : Nat → Prop} {w w1 : World} (h : ButB S w w1) (b o : Nat) (hb : b < w.heap.size) (hs : ¬ S b) : w1.cell? ⟨b, o, none⟩ = w.cell? ⟨b, o, none⟩ := World.cell?_of_block (a := ⟨b, o, none⟩) (h.block b hb hs)
theorem ButB.frz {S : Nat → Prop} {w w1 : World} (h : ButB S w w1) (b o : Nat) (hb : b < w.heap.size) (hs : ¬ S b) : w1.frozen? ⟨b, o, none⟩ = w.frozen? ⟨b, o, none⟩ := World.frozen?_of_block (a := ⟨b, o, none⟩) (h.block b hb hs)
theorem OpsM.butB {S T : Nat → Prop} {w w1 : World} {u : Value} {xs : List O2} (h : OpsM w u xs T) (hb : ButB S w w1) (hn : ∀ b, T b → ¬ S b) : OpsM w1 u xs T := by
  rcases h with h | ⟨b, c, h1, h2, h3, h4⟩
  · exact Or.inl h
  · exact Or.inr ⟨b, c, h1, h2, h3, Nat.lt_of_lt_of_le h4.size hb.size, fun o => (hb.frz b o h4.size (hn b h3)).trans (h4.frz o), fun o ho => by rw [hb.cell b o h4.size (hn b h3)]; exact h4.all o ho, fun i x hx => by
      rw [hb.cell b _ h4.size (hn b h3), hb.cell b _ h4.size (hn b h3)]; exact h4.held i x hx⟩
theorem OpssM.butB {S : Nat → Prop} {w w1 : World} {u : Value} {oss : List (List O2)} {So : Nat → Prop} {Si : Nat → Nat → Prop} (h : OpssM w u oss So Si) (hb : ButB S w w1) (hn : ∀ b, So b → ¬ S b) (hm : ∀ i b, Si i b → ¬ S b) : OpssM w1 u oss So Si := by
  rcases h with h | ⟨o, c, h1, h2, h3, h4⟩
  · exact Or.inl h
  · refine Or.inr ⟨o, c, h1, h2, Nat.lt_of_lt_of_le h3 hb.size, fun i xs hx => ?_⟩
    obtain ⟨u', hu, hr⟩ := h4 i xs hx
    exact ⟨u', (hb.cell o i h3 (hn o h2)).trans hu, hr.butB hb (hm i)⟩
structure GrowL (w : World) (lab : Lb) (B G c n : Nat) (cs : List Value) (fs : List Fn) : Prop where
  own : w.ownsRow B 67 8 (.slice (some ⟨G, 0, none⟩) n c) n cs
  cnt : fs.length = n
  len : cs.length = n * 8
  rng : ∀ b, (lab b).1 ≤ 2 → B ≤ b ∧ b < w.heap.size ∧ b ≠ G
  node : ∀ i p, fs[i]? = some p → ∃ u4 u5, (∀ (o : Nat) v, (vFn p u4 u5)[o]? = some v → cs[i * 8 + o]? = some v) ∧ OpsM w u4 p.Ex (fun b => lab b = (0, i, 0)) ∧ OpssM w u5 p.Exs (fun b => lab b = (1, i, 0)) (fun j b => lab b = (2, i, j))
theorem GrowL.lt {w : World} {lab : Lb} {B G c n : Nat} {cs : List Value} {fs : List Fn} (h : GrowL w lab B G c n cs fs) : G < w.heap.size ∧ B ≤ G ∧ n ≤ c ∧ c ≤ maxLen := by
  rcases h.own.2 with ⟨h1, _⟩ | ⟨g', cap', cur, h1, h2, h3, h4, h5, _⟩
  · simp at h1
  · simp only [Value.slice.injEq, Option.some.injEq, Addr.mk.injEq, and_true, true_and] at h1
    obtain ⟨rfl, rfl⟩ := h1
    exact ⟨(Array.getElem?_eq_some_iff.1 h3).1, h2, h4, h5⟩
theorem GrowL.butB {S : Nat → Prop} {w w1 : World} {lab : Lb} {B G c n : Nat} {cs : List Value} {fs : List Fn} (h : GrowL w lab B G c n cs fs) (hb : ButB S w w1) (hG : ¬ S G) (hl : ∀ b, (lab b).1 ≤ 2 → ¬ S b) : GrowL w1 lab B G c n cs fs := by
  have hlt := h.lt.1
  refine ⟨⟨h.own.1, ?_⟩, h.cnt, h.len, fun b hb' => ⟨(h.rng b hb').1, Nat.lt_of_lt_of_le (h.rng b hb').2.1 hb.size, (h.rng b hb').2.2⟩, fun i p hp => ?_⟩
  · rcases h.own.2 with h1 | ⟨g', cap', cur, h1, h2, h3, h4⟩
    · exact Or.inl h1
    · have e : g' = G := by
        simp only [Value.slice.injEq, Option.some.injEq, Addr.mk.injEq, and_true, true_and] at h1
        exact h1.1.symm
      exact Or.inr ⟨g', cap', cur, h1, h2, by rw [hb.block g' (by rw [e]; exact hlt) (by rw [e]; exact hG)]; exact h3, h4⟩
  · obtain ⟨u4, u5, a, b, c⟩ := h.node i p hp
    exact ⟨u4, u5, a, b.butB hb (fun x e => hl x (by rw [e]; simp)), c.butB hb (fun x e => hl x (by rw [e]; simp)) (fun j x e => hl x (by rw [e]; simp))⟩
theorem GrowL.of {w w1 : World} {lab : Lb} {B G c n : Nat} {cs : List Value} {fs : List Fn} (h : GrowL w lab B G c n cs fs) (hb : Below w.heap.size w w1) : GrowL w1 lab B G c n cs fs :=
  h.butB (S := fun _ => False) (ButB.ofBelow hb) (fun e => e) (fun _ _ e => e)
def Free (lab : Lb) (a b : Nat) : Prop := ∀ x, a ≤ x → x < b → ¬ (lab x).1 ≤ 2
theorem GrowL.free {w : World} {lab : Lb} {B G c n : Nat} {cs : List Value} {fs : List Fn} (h : GrowL w lab B G c n cs fs) {b : Nat} : Free lab w.heap.size b := fun x h1 _ h3 => by have := (h.rng x h3).2.1; omega
theorem Free.keep {lab lab' : Lb} {a b s : Nat} (h : Free lab a b) (hs : b ≤ s) (hl : ∀ x, x < s → lab' x = lab x) : Free lab' a b := fun x h1 h2 => by rw [hl x (by omega)]; exact h x h1 h2
def labP (lab : Lb) (n a1 a2 a3 a4 G5 : Nat) (lb : Nat → Nat) : Lb := fun x => if a1 ≤ x ∧ x < a2 then (0, n, 0) else if a3 ≤ x ∧ x < a4 then (if x = G5 then (1, n, 0) else (2, n, lb x)) else lab x
theorem GrowL.push {w w2 : World} {lab : Lb} {B G c n G2 c2 a1 a2 a3 a4 G5 : Nat} {lb : Nat → Nat} {cs : List Value} {fs : List Fn} {p : Fn} {u4 u5 : Value} (h : GrowL w lab B G c n cs fs)
    (f1 : Free lab a1 a2) (f2 : Free lab a3 a4) (r1 : a1 < a2 → B ≤ a1 ∧ a2 ≤ w.heap.size ∧ ¬ (a1 ≤ G ∧ G < a2)) (r2 : a3 < a4 → B ≤ a3 ∧ a4 ≤ w.heap.size ∧ ¬ (a3 ≤ G ∧ G < a4)) (r3 : a1 < a2 → a3 < a4 → a2 ≤ a3 ∨ a4 ≤ a1)
    (h4 : OpsM w u4 p.Ex (fun b => a1 ≤ b ∧ b < a2)) (h5 : OpssM w u5 p.Exs (fun b => a3 ≤ b ∧ b < a4 ∧ b = G5) (fun i b => a3 ≤ b ∧ b < a4 ∧ b ≠ G5 ∧ lb b = i))
    (hown : w2.ownsRow B 67 8 (.slice (some ⟨G2, 0, none⟩) (n + 1) c2) (n + 1) (cs ++ vFn p u4 u5)) (hgr : w.grownBy w2 (some G)) (hat : G2 = G ∨ G2 = w.heap.size) :
    GrowL w2 (labP lab n a1 a2 a3 a4 G5 lb) B G2 c2 (n + 1) (cs ++ vFn p u4 u5) (fs ++ [p]) := by
  have hn := h.cnt
  have hlen := h.len
  have hB : ButB (fun b => b = G) w w2 := ButB.grown hgr (fun b e => by simpa using e.symm)
  have hold : ∀ x, (lab x).1 ≤ 2 → labP lab n a1 a2 a3 a4 G5 lb x = lab x := fun x hx => by
    unfold labP
    rw [if_neg (fun e => f1 x e.1 e.2 hx), if_neg (fun e => f2 x e.1 e.2 hx)]
  refine ⟨hown, by simp [hn], by simp [vFn, hlen]; omega, fun x hx => ?_, fun i q hq => ?_⟩
  · have hsz := hgr.size
    have k : B ≤ x ∧ x < w.heap.size ∧ x ≠ G := by
      unfold labP at hx
      by_cases e1 : a1 ≤ x ∧ x < a2
      · have := r1 (by omega); omega
      · rw [if_neg e1] at hx
        by_cases e2 : a3 ≤ x ∧ x < a4
        · have := r2 (by omega); omega
        · rw [if_neg e2] at hx
          exact h.rng x hx
    omega
  · by_cases hi : i < fs.length
    · rw [List.getElem?_append_left hi] at hq
      obtain ⟨v4, v5, a, b, c⟩ := h.node i q hq
      refine ⟨v4, v5, fun o v hv => by
        have := a o v hv
        rw [List.getElem?_append_left ((List.getElem?_eq_some_iff.1 this).1)]; exact this, ?_, ?_⟩
      · exact (b.butB hB (fun x e e' => by have := h.rng x (by rw [e]; simp); omega)).mono (fun x _ e => by rw [hold x (by rw [e]; simp)]; exact e)
      · exact (c.butB hB (fun x e e' => by have := h.rng x (by rw [e]; simp); omega) (fun j x e e' => by have := h.rng x (by rw [e]; simp); omega)).mono (fun x _ e => by rw [hold x (by rw [e]; simp)]; exact e) (fun j x _ e => by rw [hold x (by rw [e]; simp)]; exact e)
    · have hi1 := (List.getElem?_eq_some_iff.1 hq).1
      simp at hi1
      obtain rfl : i = fs.length := by omega
      rw [List.getElem?_append_right (Nat.le_refl _)] at hq
      simp at hq
      subst hq
      refine ⟨u4, u5, fun o v hv => by
        rw [List.getElem?_append_right (by omega), show fs.length * 8 + o - cs.length = o by rw [hlen, hn]; omega]; exact hv, ?_, ?_⟩
      · exact (h4.butB hB (fun x e e' => by have := r1 (by omega); omega)).mono (fun x _ e => by unfold labP; rw [if_pos e, hn])
      · exact (h5.butB hB (fun x e e' => by have := r2 (by omega); omega) (fun j x e e' => by have := r2 (by omega); omega)).mono
          (fun x _ e => by unfold labP; rw [if_neg (fun e' => by have := r3 (by omega) (by omega); omega), if_pos ⟨e.1, e.2.1⟩, if_pos e.2.2, hn])
          (fun j x _ e => by unfold labP; rw [if_neg (fun e' => by have := r3 (by omega) (by omega); omega), if_pos ⟨e.1, e.2.1⟩, if_neg e.2.2.1, e.2.2.2, hn])
theorem labP_low {lab : Lb} {n a1 a2 a3 a4 G5 s : Nat} {lb : Nat → Nat} (h1 : a1 < a2 → s ≤ a1) (h2 : a3 < a4 → s ≤ a3) : ∀ x, x < s → labP lab n a1 a2 a3 a4 G5 lb x = lab x := fun x hx => by
  unfold labP
  rw [if_neg (fun e => by have := h1 (by omega); omega), if_neg (fun e => by have := h2 (by omega); omega)]
theorem GrowL.push0 {w w2 : World} {lab : Lb} {B G c n G2 c2 : Nat} {cs : List Value} {fs : List Fn} {p : Fn} {u4 u5 : Value} (h : GrowL w lab B G c n cs fs) (e4 : p.Ex = []) (e5 : p.Exs = []) (h4 : ∃ a c, u4 = .slice a 0 c) (h5 : ∃ a c, u5 = .slice a 0 c)
    (hown : w2.ownsRow B 67 8 (.slice (some ⟨G2, 0, none⟩) (n + 1) c2) (n + 1) (cs ++ vFn p u4 u5)) (hgr : w.grownBy w2 (some G)) (hat : G2 = G ∨ G2 = w.heap.size) :
    GrowL w2 lab B G2 c2 (n + 1) (cs ++ vFn p u4 u5) (fs ++ [p]) := by
  have := h.push (p := p) (u4 := u4) (u5 := u5) (a1 := 0) (a2 := 0) (a3 := 0) (a4 := 0) (G5 := 0) (lb := fun _ => 0) (fun x _ h2 => by omega) (fun x _ h2 => by omega) (fun h => by omega) (fun h => by omega) (fun h => by omega) (Or.inl ⟨e4, h4⟩) (Or.inl ⟨e5, h5⟩) hown hgr hat
  have hl : labP lab n 0 0 0 0 0 (fun _ => 0) = lab := by funext x; unfold labP; rw [if_neg (by omega), if_neg (by omega)]
  rw [hl] at this
  exact this
theorem GrowL.flM {w : World} {lab : Lb} {B G c n : Nat} {cs : List Value} {fs : List Fn} (h : GrowL w lab B G c n cs fs) : FlM w (fun x => if x = G then (3, 0, 0) else if (lab x).1 ≤ 2 then lab x else (4, 0, 0)) G fs ∧ ∀ b, ((if b = G then (3, 0, 0) else if (lab b).1 ≤ 2 then lab b else (4, 0, 0) : Nat × Nat × Nat)).1 ≤ 3 → B ≤ b ∧ b < w.heap.size := by
  have hlt := h.lt
  have hcell : ∀ (j : Nat) v, cs[j]? = some v → w.cell? ⟨G, j, none⟩ = some v := by
    rcases h.own.2 with ⟨h1, _⟩ | ⟨g', cap', cur, h1, h2, h3, h4, h5, h6, h7⟩
    · simp at h1
    · simp only [Value.slice.injEq, Option.some.injEq, Addr.mk.injEq, and_true, true_and] at h1
      obtain ⟨rfl, rfl⟩ := h1
      intro j v hv
      have hj := (List.getElem?_eq_some_iff.1 hv).1
      rw [h.len] at hj
      rw [← h7, List.getElem?_take, if_pos (by omega)] at hv
      simp only [World.cell?, h3]
      simpa using hv
  have hfr : ∀ o, w.frozen? ⟨G, o, none⟩ = false := by
    rcases h.own.2 with ⟨h1, _⟩ | ⟨g', cap', cur, h1, h2, h3, h4, h5, h6, h7⟩
    · simp at h1
    · simp only [Value.slice.injEq, Option.some.injEq, Addr.mk.injEq, and_true, true_and] at h1
      obtain ⟨rfl, rfl⟩ := h1
      intro o
      simp [World.frozen?, h3]
  have hlab : ∀ x y, lab x = y → y.1 ≤ 2 → (if x = G then (3, 0, 0) else if (lab x).1 ≤ 2 then lab x else (4, 0, 0)) = y := fun x y e hy => by
    have := h.rng x (by rw [e]; exact hy)
    rw [if_neg this.2.2, if_pos (by rw [e]; exact hy), e]
  refine ⟨⟨hlt.1, by simp, hfr, fun o ho => ?_, fun i p hp => ?_⟩, fun b hb => ?_⟩
  · rw [h.cnt, ← h.len] at ho
    exact ⟨_, hcell o _ (List.getElem?_eq_getElem ho)⟩
  · obtain ⟨u4, u5, a, b, d⟩ := h.node i p hp
    exact ⟨hcell _ _ (a 0 _ rfl), hcell _ _ (a 1 _ rfl), hcell _ _ (a 2 _ rfl), hcell _ _ (a 3 _ rfl), hcell _ _ (a 6 _ rfl), hcell _ _ (a 7 _ rfl), ⟨u4, hcell _ _ (a 4 _ rfl), b.mono (fun x _ e => hlab x _ e (by simp))⟩, u5, hcell _ _ (a 5 _ rfl), d.mono (fun x _ e => hlab x _ e (by simp)) (fun j x _ e => hlab x _ e (by simp))⟩
  · by_cases e : b = G
    · subst e; exact ⟨hlt.2.1, hlt.1⟩
    · rw [if_neg e] at hb
      by_cases e2 : (lab b).1 ≤ 2
      · exact ⟨(h.rng b e2).1, (h.rng b e2).2.1⟩
      · rw [if_neg e2] at hb; simp at hb
end Go.Proofs.YtnchcndcinpalaaGreatDoor
namespace Go.Proofs.YtnchcndcinpalaaGreatDoor
open Go Go.RowKit
def UPostX (w0 : World) (r : List Fn) (a : Int) (G : Nat) (lab : Lb) (W : World) (e : Ending) (w' : World) : Prop :=
  ∃ (lab' : Lb) (G2 c2 : Nat) (cs2 : List Value), e = .returned (.tuple #[.slice (some ⟨G2, 0, none⟩) r.length c2, .int .i64 a]) ∧ GrowL w' lab' w0.heap.size G2 c2 r.length cs2 r ∧ (∀ x, x < W.heap.size → lab' x = lab x) ∧ ButB (fun b => b = G) W w' ∧ (G2 = G ∨ W.heap.size ≤ G2)
def UPost (ts : List Tb) (ps : List Pn) (w0 : World) (f i : Nat) (d w : Int) (out : List Fn) (G : Nat) (lab : Lb) (W : World) (e : Ending) (w' : World) : Prop := UPostX w0 (uN ts ps f i d w out).1 (uN ts ps f i d w out).2 G lab W e w'
structure UBase (ts : List Tb) (ps : List Pn) (g gt : Nat) (w0 : World) : Prop where
  good : Good ts ps
  few : ps.length ≤ 2000
  lt : ts.length ≤ 1048576
  fit : ∀ p ∈ ps, p.Ex.length ≤ 1048576 ∧ p.Exs.length ≤ 1048576 ∧ ∀ xs ∈ p.Exs, xs.length ≤ 1048576
  cols : ∀ t ∈ ts, 0 ≤ t.Cols ∧ t.Cols ≤ 16
  hg : g < w0.heap.size
  hn : PnsAt w0 g 0 ps
  hgt : gt < w0.heap.size
  ht : TablesAt w0 gt 0 ts
structure UHyp (ts : List Tb) (ps : List Pn) (g cap gt capt : Nat) (w0 : World) (f i : Nat) : Prop where
  base : UBase ts ps g gt w0
  ih : ∀ q, q < i → ∀ (d w : Int) (out : List Fn) (G c : Nat) (cs : List Value) (lab : Lb) (W : World), 0 ≤ w → 0 ≤ wid ts ps q w → GrowL W lab w0.heap.size G c out.length cs out → Below w0.heap.size w0 W → out.length + 2 * szP ps q ≤ 5000 →
    Calls Tryz.prog 44 #[.agg #[.slice (some ⟨g, 0, none⟩) ps.length cap], .agg #[.slice (some ⟨gt, 0, none⟩) ts.length capt], .int .i64 (q : Int), .int .i64 d, .int .i64 w, .slice (some ⟨G, 0, none⟩) out.length c] W (UPost ts ps w0 f q d w out G lab W)
theorem wid_w {ts : List Tb} {ps : List Pn} {i : Nat} {w : Int} (h : 0 ≤ wid ts ps i w) : w ≤ 200 := by
  have := (wid_range ts ps i w).2 h
  omega
theorem ButB.low {w0 W w' : World} {G : Nat} (h : ButB (fun b => b = G) W w') (hB : Below w0.heap.size w0 W) (hG : w0.heap.size ≤ G) : Below w0.heap.size w0 w' := hB.trans (h.below hB.size (fun b e => by rw [e]; exact hG))
end Go.Proofs.YtnchcndcinpalaaGreatDoor
namespace Go.Proofs.YtnchcndcinpalaaGreatDoor
open Go Go.RowKit
set_option maxRecDepth 100000 in
set_option maxHeartbeats 8000000 in
theorem U_1 (ts : List Tb) (ps : List Pn) (g cap gt capt : Nat) (w0 : World) (f i : Nat) (H : UHyp ts ps g cap gt capt w0 f i) (hi : i < ps.length) (hif : i ≤ f) (hK : (ps[i]).K = 1) (d w : Int) (out : List Fn) (G c : Nat) (cs : List Value) (lab : Lb) (W : World) (hw0 : 0 ≤ w) (hw : 0 ≤ wid ts ps i w) (hL : GrowL W lab w0.heap.size G c out.length cs out) (hB : Below w0.heap.size w0 W) (hlen : out.length + 2 * szP ps i ≤ 5000) :
    Calls Tryz.prog 44 #[.agg #[.slice (some ⟨g, 0, none⟩) ps.length cap], .agg #[.slice (some ⟨gt, 0, none⟩) ts.length capt], .int .i64 (i : Int), .int .i64 d, .int .i64 w, .slice (some ⟨G, 0, none⟩) out.length c] W (UPost ts ps w0 (f + 1) i d w out G lab W) := by
  have hp : ps[i]? = some ps[i] := List.getElem?_eq_getElem hi
  have _u := And.intro hif (And.intro hw0 hlen)
  clear _u
  obtain ⟨ii, hii, hz⟩ := Option.map_eq_some_iff.1 (show (Tryz.prog.info? 67).map (fun i => (i.zero, i.size, i.bytes)) = some (some (.agg #[.int .i64 0, .int .i64 0, .int .i64 0, .int .i64 0, .slice none 0 0, .slice none 0 0, .int .i64 0, .int .i64 0]), 8, 96) by kernel_rfl)
  simp only [Prod.mk.injEq] at hz
  obtain ⟨hz0, hz1, hz2⟩ := hz
  obtain ⟨e0, e1, e2, e5, e6, ⟨b3, e3, _, h3s, ho3⟩, b4, e4, _, h4s, ho4⟩ := H.base.hn.at i hi
  simp only [Nat.zero_add] at e0 e1 e2 e3 e4 e5 e6
  have hg0 := H.base.hg
  have c0 := (hB.cell (p := ⟨g, i * 7, none⟩) hg0).trans e0
  have c1 := (hB.cell (p := ⟨g, i * 7 + 1, none⟩) hg0).trans e1
  have c2 := (hB.cell (p := ⟨g, i * 7 + 2, none⟩) hg0).trans e2
  have c3 := (hB.cell (p := ⟨g, i * 7 + 3, none⟩) hg0).trans e3
  have c4 := (hB.cell (p := ⟨g, i * 7 + 4, none⟩) hg0).trans e4
  have c5 := (hB.cell (p := ⟨g, i * 7 + 5, none⟩) hg0).trans e5
  have c6 := (hB.cell (p := ⟨g, i * 7 + 6, none⟩) hg0).trans e6
  have q1 : g < W.heap.size := Nat.lt_of_lt_of_le hg0 hB.size
  have j1 : (i : Int) < (ps.length : Int) := by omega
  have hw2 := wid_w hw
  have hfew := H.base.few
  have hsp := szP_pos (ps := ps) i
  have hGl := hL.lt
  have hBs := hB.size
  clear e0 e1 e2 e3 e4 e5 e6
  show Calls _ _ _ _ (UPostX w0 (uN ts ps (f + 1) i d w out).1 (uN ts ps (f + 1) i d w out).2 G lab W)
  rw [uN_1 hp hK]
  dsimp only
  have HL := hide hL
  generalize ps[i] = p at *
  rw [hK] at c0
  clear H ho3 ho4 hL hlen hw hp
  go_enter Tryz.func44, Tryz.ntmps44
  go_wp2
  go_ret2
  exact ⟨lab, G, c, cs, rfl, (unhide HL).of (bA (bA (bA (Below.refl _ _) _) _) _), fun _ _ => rfl, ButB.ofBelow (bA (bA (bA (Below.refl _ _) _) _) _), Or.inl rfl⟩
end Go.Proofs.YtnchcndcinpalaaGreatDoor
namespace Go.Proofs.YtnchcndcinpalaaGreatDoor
open Go Go.RowKit
set_option maxRecDepth 100000 in
set_option maxHeartbeats 8000000 in
theorem U_2 (ts : List Tb) (ps : List Pn) (g cap gt capt : Nat) (w0 : World) (f i : Nat) (H : UHyp ts ps g cap gt capt w0 f i) (hi : i < ps.length) (hif : i ≤ f) (hK : (ps[i]).K = 2) (d w : Int) (out : List Fn) (G c : Nat) (cs : List Value) (lab : Lb) (W : World) (hw0 : 0 ≤ w) (hw : 0 ≤ wid ts ps i w) (hL : GrowL W lab w0.heap.size G c out.length cs out) (hB : Below w0.heap.size w0 W) (hlen : out.length + 2 * szP ps i ≤ 5000) :
    Calls Tryz.prog 44 #[.agg #[.slice (some ⟨g, 0, none⟩) ps.length cap], .agg #[.slice (some ⟨gt, 0, none⟩) ts.length capt], .int .i64 (i : Int), .int .i64 d, .int .i64 w, .slice (some ⟨G, 0, none⟩) out.length c] W (UPost ts ps w0 (f + 1) i d w out G lab W) := by
  have hp : ps[i]? = some ps[i] := List.getElem?_eq_getElem hi
  have _u := And.intro hif (And.intro hw0 hlen)
  clear _u
  obtain ⟨ii, hii, hz⟩ := Option.map_eq_some_iff.1 (show (Tryz.prog.info? 67).map (fun i => (i.zero, i.size, i.bytes)) = some (some (.agg #[.int .i64 0, .int .i64 0, .int .i64 0, .int .i64 0, .slice none 0 0, .slice none 0 0, .int .i64 0, .int .i64 0]), 8, 96) by kernel_rfl)
  simp only [Prod.mk.injEq] at hz
  obtain ⟨hz0, hz1, hz2⟩ := hz
  obtain ⟨e0, e1, e2, e5, e6, ⟨b3, e3, _, h3s, ho3⟩, b4, e4, _, h4s, ho4⟩ := H.base.hn.at i hi
  simp only [Nat.zero_add] at e0 e1 e2 e3 e4 e5 e6
  have hg0 := H.base.hg
  have c0 := (hB.cell (p := ⟨g, i * 7, none⟩) hg0).trans e0
  have c1 := (hB.cell (p := ⟨g, i * 7 + 1, none⟩) hg0).trans e1
  have c2 := (hB.cell (p := ⟨g, i * 7 + 2, none⟩) hg0).trans e2
  have c3 := (hB.cell (p := ⟨g, i * 7 + 3, none⟩) hg0).trans e3
  have c4 := (hB.cell (p := ⟨g, i * 7 + 4, none⟩) hg0).trans e4
  have c5 := (hB.cell (p := ⟨g, i * 7 + 5, none⟩) hg0).trans e5
  have c6 := (hB.cell (p := ⟨g, i * 7 + 6, none⟩) hg0).trans e6
  have q1 : g < W.heap.size := Nat.lt_of_lt_of_le hg0 hB.size
  have j1 : (i : Int) < (ps.length : Int) := by omega
  have hw2 := wid_w hw
  have hfew := H.base.few
  have hsp := szP_pos (ps := ps) i
  have hGl := hL.lt
  have hBs := hB.size
  clear e0 e1 e2 e3 e4 e5 e6
  show Calls _ _ _ _ (UPostX w0 (uN ts ps (f + 1) i d w out).1 (uN ts ps (f + 1) i d w out).2 G lab W)
  rw [uN_2 hp hK]
  dsimp only
  generalize ps[i] = p at *
  obtain ⟨K, T, M, Ex, Exs, L, R⟩ := p
  simp only at c0 c1 c2 c3 c4 c5 c6 hK ho3 ho4
  subst hK
  clear H ho3 ho4 hw hp h3s h4s hw0 hw2
  go_enter Tryz.func44, Tryz.ntmps44
  go_upto_region 5 with fail
  have hb3 := bA (bA (bA (Below.refl W.heap.size W) (.cells #[.slice (some ⟨g, 0, none⟩) ps.length cap] 52)) (.cells #[.slice (some ⟨gt, 0, none⟩) ts.length capt] 38)) (.cells #[.int .i64 2, .int .i64 T, .int .i64 M, .slice (some ⟨b3, 0, none⟩) Ex.length Ex.length, .slice (some ⟨b4, 0, none⟩) Exs.length Exs.length, .int .i64 L, .int .i64 R] 130)
  obtain ⟨n0, n1, n2, n3, n4, n5, n6, pb0, db0, zs⟩ := (fun Q (hQ : (((W.alloc (.cells #[.slice (some ⟨g, 0, none⟩) ps.length cap] 52)).alloc (.cells #[.slice (some ⟨gt, 0, none⟩) ts.length capt] 38)).alloc (.cells #[.int .i64 2, .int .i64 T, .int .i64 M, .slice (some ⟨b3, 0, none⟩) Ex.length Ex.length, .slice (some ⟨b4, 0, none⟩) Exs.length Exs.length, .int .i64 L, .int .i64 R] 130)) = Q) => (by subst hQ; exact ⟨by simp [go_sem], by simp [go_sem], by simp [go_sem], by simp [go_sem], by simp [go_sem], by simp [go_sem], by simp [go_sem], by simp [go_sem], by simp [go_sem], by simp⟩ : Q.cell? ⟨W.heap.size + 1 + 1, 0, none⟩ = some (.int .i64 2) ∧ Q.cell? ⟨W.heap.size + 1 + 1, 1, none⟩ = some (.int .i64 T) ∧ Q.cell? ⟨W.heap.size + 1 + 1, 2, none⟩ = some (.int .i64 M) ∧ Q.cell? ⟨W.heap.size + 1 + 1, 3, none⟩ = some (.slice (some ⟨b3, 0, none⟩) Ex.length Ex.length) ∧ Q.cell? ⟨W.heap.size + 1 + 1, 4, none⟩ = some (.slice (some ⟨b4, 0, none⟩) Exs.length Exs.length) ∧ Q.cell? ⟨W.heap.size + 1 + 1, 5, none⟩ = some (.int .i64 L) ∧ Q.cell? ⟨W.heap.size + 1 + 1, 6, none⟩ = some (.int .i64 R) ∧ Q.cell? ⟨W.heap.size, 0, none⟩ = some (.slice (some ⟨g, 0, none⟩) ps.length cap) ∧ Q.cell? ⟨W.heap.size + 1, 0, none⟩ = some (.slice (some ⟨gt, 0, none⟩) ts.length capt) ∧ Q.heap.size = W.heap.size + 3)) _ rfl
  have HLb := hide (hL.of hb3)
  have HBb := hide (hB.trans (hb3.mono hBs))
  have HB3 := hide hb3
  clear hL hb3 c0 c1 c2 c3 c4 c5 c6
  generalize (((W.alloc (.cells #[.slice (some ⟨g, 0, none⟩) ps.length cap] 52)).alloc (.cells #[.slice (some ⟨gt, 0, none⟩) ts.length capt] 38)).alloc (.cells #[.int .i64 2, .int .i64 T, .int .i64 M, .slice (some ⟨b3, 0, none⟩) Ex.length Ex.length, .slice (some ⟨b4, 0, none⟩) Exs.length Exs.length, .int .i64 L, .int .i64 R] 130)) = Wb at *
  obtain ⟨x0, hx0⟩ : ∃ x0, W.heap.size = x0 := ⟨_, rfl⟩
  have HX0 := hide hx0
  rw [hx0] at n0 n1 n2 n3 n4 n5 n6 pb0 db0 zs hBs hGl
  rw [hx0]
  clear hx0 q1
  have zs0 : x0 < Wb.heap.size := by omega
  have zs1 : x0 + 1 < Wb.heap.size := by omega
  have zs2 : x0 + 1 + 1 < Wb.heap.size := by omega
  clear zs
  have HLc := hide ((unhide HLb).of (bA (Below.refl _ _) (.cells #[.int .i64 2, .int .i64 T, .int .i64 0, .int .i64 0, .slice none 0 0, .slice none 0 0, .int .i64 0, .int .i64 0] 67)))
  have HNw : Hid (∀ j u, ([.int .i64 2, .int .i64 T, .int .i64 0, .int .i64 0, .slice none 0 0, .slice none 0 0, .int .i64 0, .int .i64 0] : List Value)[j]? = some u → (Wb.alloc (.cells #[.int .i64 2, .int .i64 T, .int .i64 0, .int .i64 0, .slice none 0 0, .slice none 0 0, .int .i64 0, .int .i64 0] 67)).cell? ((⟨Wb.heap.size, 0, none⟩ : Addr).add j) = some u) := World.news_of_block (cs := #[.int .i64 2, .int .i64 T, .int .i64 0, .int .i64 0, .slice none 0 0, .slice none 0 0, .int .i64 0, .int .i64 0]) (MapKept.heap_alloc Wb _).1
  go_upto_region 6 with (at_builtin; refine wpList_append_lies _ rfl (.tmp 32) (.tmp 36) 30 rfl w0.heap.size 67 ii _ 8 96 Tryz.underlying30 hii hz0 hz1 hz2 rfl (by decide) (.slice (some ⟨G, 0, none⟩) (out.length) c) (out.length) cs rfl (unhide HLc).own ⟨Wb.heap.size, 0, none⟩ 1 1 [.int .i64 2, .int .i64 T, .int .i64 0, .int .i64 0, .slice none 0 0, .slice none 0 0, .int .i64 0, .int .i64 0] rfl rfl (unhide HNw) (by intro u hu; simp at hu; rcases hu with rfl | rfl | rfl | rfl | rfl | rfl | rfl | rfl <;> rfl) (by decide) (by unfold maxLen; omega) (by omega) (by (try simp); omega) _ rfl ?_; intro G2 c2 w2 hown2 hgr2 hat2 hlt2)
  have hat2' : G2 = G ∨ G2 = (Wb.alloc (.cells #[.int .i64 2, .int .i64 T, .int .i64 0, .int .i64 0, .slice none 0 0, .slice none 0 0, .int .i64 0, .int .i64 0] 67)).heap.size := hat2.imp (fun e => by simpa [Value.ownBlock] using e.symm) (fun e => e)
  have HL2 := hide ((unhide HLc).push0 (p := ⟨2, T, 0, 0, [], [], 0, 0⟩) rfl rfl ⟨_, _, rfl⟩ ⟨_, _, rfl⟩ hown2 hgr2 hat2')
  have HBt2 : Hid (ButB (fun b => b = G) W w2) := (ButB.ofBelow (bA (unhide HB3) _)).trans (ButB.grown hgr2 (fun b e => by simpa [Value.ownBlock] using e.symm))
  have hG2 : G2 = G ∨ x0 ≤ G2 := hat2'.imp id (fun e => by rw [e]; simp; omega)
  have h2s : x0 ≤ w2.heap.size := by have := hgr2.size; simp at this; omega
  have hl2 := (unhide HL2).lt
  clear hown2 hgr2 hat2 hat2' HLc HLb n0 n1 n2 n3 n4 n5 n6 pb0 db0 HNw
  have HLd := hide ((unhide HL2).of (bA (Below.refl _ _) (.cells #[.int .i64 5, .int .i64 0, .int .i64 0, .int .i64 0, .slice none 0 0, .slice none 0 0, .int .i64 d, .int .i64 (out.length : Int)] 67)))
  have HNw : Hid (∀ j u, ([.int .i64 5, .int .i64 0, .int .i64 0, .int .i64 0, .slice none 0 0, .slice none 0 0, .int .i64 d, .int .i64 (out.length : Int)] : List Value)[j]? = some u → (w2.alloc (.cells #[.int .i64 5, .int .i64 0, .int .i64 0, .int .i64 0, .slice none 0 0, .slice none 0 0, .int .i64 d, .int .i64 (out.length : Int)] 67)).cell? ((⟨w2.heap.size, 0, none⟩ : Addr).add j) = some u) := World.news_of_block (cs := #[.int .i64 5, .int .i64 0, .int .i64 0, .int .i64 0, .slice none 0 0, .slice none 0 0, .int .i64 d, .int .i64 (out.length : Int)]) (MapKept.heap_alloc w2 _).1
  generalize (cs ++ vFn ⟨2, T, 0, 0, [], [], 0, 0⟩ (.slice none 0 0) (.slice none 0 0)) = cs2 at *
  go_wp2_with (at_builtin; refine wpList_append_lies _ rfl (.tmp 38) (.tmp 44) 30 rfl w0.heap.size 67 ii _ 8 96 Tryz.underlying30 hii hz0 hz1 hz2 rfl (by decide) (.slice (some ⟨G2, 0, none⟩) (out.length + 1) c2) (out.length + 1) cs2 rfl (unhide HLd).own ⟨w2.heap.size, 0, none⟩ 1 1 [.int .i64 5, .int .i64 0, .int .i64 0, .int .i64 0, .slice none 0 0, .slice none 0 0, .int .i64 d, .int .i64 (out.length : Int)] rfl rfl (unhide HNw) (by intro u hu; simp at hu; rcases hu with rfl | rfl | rfl | rfl | rfl | rfl | rfl | rfl <;> rfl) (by decide) (by unfold maxLen; omega) (by omega) (by (try simp); omega) _ rfl ?_; intro G3 c3 w3 hown3 hgr3 hat3 hlt3)
  have hat3' : G3 = G2 ∨ G3 = (w2.alloc (.cells #[.int .i64 5, .int .i64 0, .int .i64 0, .int .i64 0, .slice none 0 0, .slice none 0 0, .int .i64 d, .int .i64 (out.length : Int)] 67)).heap.size := hat3.imp (fun e => by simpa [Value.ownBlock] using e.symm) (fun e => e)
  have HL3 := hide ((unhide HLd).push0 (p := ⟨5, 0, 0, 0, [], [], d, (out.length : Int)⟩) rfl rfl ⟨_, _, rfl⟩ ⟨_, _, rfl⟩ hown3 hgr3 hat3')
  have HBt3 : Hid (ButB (fun b => b = G) W w3) := ((unhide HBt2).trans (ButB.ofBelow (bA (Below.refl _ _) _))).trans' (ButB.grown (S := fun b => b = G2) hgr3 (fun b e => by simpa [Value.ownBlock] using e.symm)) (fun b e => by subst e; rw [unhide HX0]; exact hG2)
  have hG3 : G3 = G ∨ x0 ≤ G3 := by
    rcases hat3' with e | e
    · rw [e]; exact hG2
    · exact Or.inr (by rw [e]; simp; omega)
  clear hown3 hgr3 hat3 hat3' HLd HL2 HBt2 HNw
  go_wp2
  go_ret2
  have hlr : (out ++ [(⟨2, T, 0, 0, [], [], 0, 0⟩ : Fn)] ++ [(⟨5, 0, 0, 0, [], [], d, (out.length : Int)⟩ : Fn)]).length = out.length + 1 + 1 := by simp
  refine ⟨lab, G3, c3, _, by rw [hlr]; first | rfl | simp [go_sem], by rw [hlr]; exact unhide HL3, fun _ _ => rfl, unhide HBt3, by rw [unhide HX0]; exact hG3⟩
end Go.Proofs.YtnchcndcinpalaaGreatDoor
