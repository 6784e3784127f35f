import Derived.Test.YtnchcndcinpalaaGreatDoorQ12
import Derived.Test.YtnchcndcinpalaaGreatDoorQ6
import Derived.Test.YtnchcndcinpalaaGreatDoorQ24
import Derived.Test.YtnchcndcinpalaaGreatDoorQ15
import Derived.Test.YtnchcndcinpalaaGreatDoorCheckPlan
import Derived.Deep.DeepCutAuto
import Derived.Deep.RegionHeld3
namespace Go.Proofs.YtnchcndcinpalaaGreatDoor
open Go Go.RowKit
abbrev twoK (k : Int) : Prop := k = 5 ∨ k = 6 ∨ k = 7 ∨ k = 9 ∨ k = 10 ∨ k = 11
abbrev oneK (k : Int) : Prop := k = 3 ∨ k = 4 ∨ k = 8 ∨ k = 5 ∨ k = 6 ∨ k = 7 ∨ k = 9 ∨ k = 10 ∨ k = 11
abbrev matK (k : Int) : Prop := k = 5 ∨ k = 6 ∨ k = 7 ∨ k = 10 ∨ k = 11
abbrev exK (k m : Int) : Prop := k = 3 ∨ k = 6 ∨ k = 10 ∨ k = 11 ∨ (k = 7 ∧ m ≠ 1)
def FldF (nt i : Nat) (K T M W : Int) (le ls : Nat) (L R : Int) : Prop :=
  1 ≤ K ∧ K ≤ 11 ∧ (K = 2 → 0 ≤ T ∧ T < (nt : Int)) ∧ (K ≠ 2 → T = 0) ∧ (K = 7 → 1 ≤ M ∧ M ≤ 4) ∧ (K ≠ 7 → M = 0) ∧
  (oneK K → 0 ≤ L ∧ L < (i : Int)) ∧ (¬ oneK K → L = 0) ∧ (twoK K → 0 ≤ R ∧ R < (i : Int)) ∧ (¬ twoK K → R = 0) ∧ (¬ matK K → W = 0) ∧ (exK K M ∨ le = 0) ∧ (K = 4 ∨ ls = 0)
abbrev FldP (nt i : Nat) (p : Fn) : Prop := FldF nt i p.K p.T p.M p.W p.Ex.length p.Exs.length p.L p.R
def SidP (p : Fn) (l r : Int) : Prop :=
  (matK p.K → 0 ≤ p.W ∧ p.W ≤ l ∧ p.W ≤ r) ∧ (exK p.K p.M → exOk (if p.K = 3 then l else r) p.Ex = true) ∧ (∀ xs ∈ p.Exs, exOk l xs = true) ∧ (p.K = 9 → l = r)
def stepF (ts : List Tb) (p : Fn) (l r : Int) : Int :=
  if p.K = 1 then 0 else if p.K = 2 then colsAt ts p.T else if p.K = 4 then (p.Exs.length : Int) else if p.K = 5 then l + r - p.W else if p.K = 6 ∨ p.K = 7 then l + 1 else l
def fw (ts : List Tb) (fs : List Fn) (i : Nat) : Int :=
  match fs[i]? with
  | none => 0
  | some p => stepF ts p (if _h : p.L.toNat < i then fw ts fs p.L.toNat else 0) (if _h : p.R.toNat < i then fw ts fs p.R.toNat else 0)
  termination_by i
def fl (ts : List Tb) (fs : List Fn) (p : Fn) : Int := if oneK p.K then fw ts fs p.L.toNat else 0
def fr (ts : List Tb) (fs : List Fn) (p : Fn) : Int := if twoK p.K then fw ts fs p.R.toNat else 0
structure NodF (ts : List Tb) (fs : List Fn) (i : Nat) (p : Fn) : Prop where
  fld : FldP ts.length i p
  sid : SidP p (fl ts fs p) (fr ts fs p)
  wide : fw ts fs i ≤ 200
def OkTo (ts : List Tb) (fs : List Fn) (k : Nat) : Prop := ∀ (i : Nat) (hi : i < fs.length), i < k → NodF ts fs i fs[i]
theorem OkTo.zero (ts : List Tb) (fs : List Fn) : OkTo ts fs 0 := fun i _ h => by omega
theorem OkTo.succ {ts : List Tb} {fs : List Fn} {k : Nat} (h : OkTo ts fs k) (hk : k < fs.length) (hN : NodF ts fs k fs[k]) : OkTo ts fs (k + 1) := fun i hi hik => by
  by_cases e : i = k
  · subst e; exact hN
  · exact h i hi (by omega)
end Go.Proofs.YtnchcndcinpalaaGreatDoor
namespace Go.Proofs.YtnchcndcinpalaaGreatDoor
open Go Go.RowKit
def qf (K : Int) : List Bool :=
  if K = 2 then [true, false, false, false, false, false, false, false] else if K = 3 then [false, false, true, false, true, false, false, false] else if K = 4 then [false, false, false, true, true, false, false, false] else if K = 5 then [false, false, false, false, true, true, false, true] else if K = 6 then [false, false, true, false, true, true, false, true] else if K = 7 then [false, true, true, false, true, true, false, true] else if K = 8 then [false, false, false, false, true, false, false, false] else if K = 9 then [false, false, false, false, true, true, false, false] else if K = 10 then [false, false, true, false, true, true, false, true] else if K = 11 then [false, false, true, false, true, true, false, true] else [false, false, false, false, false, false, false, false]
abbrev TFlat (w : World) : Prop := TabAt w 2 [.bool false, .bool false, .bool false, .bool false, .bool false, .bool false, .bool false, .bool false, .bool false, .bool false, .bool false, .bool false, .bool false, .bool false, .bool false, .bool false, .bool true, .bool false, .bool false, .bool false, .bool false, .bool false, .bool false, .bool false, .bool false, .bool false, .bool true, .bool false, .bool true, .bool false, .bool false, .bool false, .bool false, .bool false, .bool false, .bool true, .bool true, .bool false, .bool false, .bool false, .bool false, .bool false, .bool false, .bool false, .bool true, .bool true, .bool false, .bool true, .bool false, .bool false, .bool true, .bool false, .bool true, .bool true, .bool false, .bool true, .bool false, .bool true, .bool true, .bool false, .bool true, .bool true, .bool false, .bool true, .bool false, .bool false, .bool false, .bool false, .bool true, .bool false, .bool false, .bool false, .bool false, .bool false, .bool false, .bool false, .bool true, .bool true, .bool false, .bool false, .bool false, .bool false, .bool true, .bool false, .bool true, .bool true, .bool false, .bool true, .bool false, .bool false, .bool true, .bool false, .bool true, .bool true, .bool false, .bool true]
end Go.Proofs.YtnchcndcinpalaaGreatDoor
namespace Go.Proofs.YtnchcndcinpalaaGreatDoor
open Go Go.RowKit
abbrev TKinds (w : World) : Prop := TabAt w 0 [.int .i64 0, .int .i64 0, .int .i64 0, .int .i64 3, .int .i64 4, .int .i64 5, .int .i64 5, .int .i64 6, .int .i64 7, .int .i64 8, .int .i64 9]
def IPostX (U : Nat) (pl wd : Value) (r : List Fn) (a : Int) (G : Nat) (lab : Lb) (W : World) (e : Ending) (w' : World) : Prop :=
  ∃ (lab' : Lb) (G2 c2 : Nat) (cs2 : List Value), e = .returned (.int .i64 a) ∧ UBox w' U pl wd (.slice (some ⟨G2, 0, none⟩) r.length c2) ∧ GrowL w' lab' (U + 1) G2 c2 r.length cs2 r ∧ (∀ x, x < W.heap.size → lab' x = lab x) ∧ ButB (fun b => b = G ∨ b = U) W w' ∧ (G2 = G ∨ W.heap.size ≤ G2)
def IPost (ts : List Tb) (ps : List Pn) (U : Nat) (pl wd : Value) (f i : Nat) (d w : Int) (out : List Fn) (G : Nat) (lab : Lb) (W : World) (e : Ending) (w' : World) : Prop := IPostX U pl wd (uN ts ps f i d w out).1 (uN ts ps f i d w out).2 G lab W e w'
structure IBase (ts : List Tb) (ps : List Pn) (g bw U : Nat) (w0 : World) : Prop where
  good : Good ts ps
  few : ps.length ≤ 2000
  fit : ∀ p ∈ ps, p.Ex.length ≤ 1048576 ∧ p.Exs.length ≤ 1048576 ∧ ∀ xs ∈ p.Exs, xs.length ≤ 1048576
  hg : g < w0.heap.size
  hn : PnsAt w0 g 0 ps
  row : FnRow w0 bw ps.length (iw ts ps)
  tk : TKinds w0
  tp : TPlan w0
  tf : TFlat w0
  low : w0.heap.size ≤ U
structure IHyp (ts : List Tb) (ps : List Pn) (g cap bw U : Nat) (w0 : World) (f i : Nat) : Prop where
  base : IBase ts ps g bw U w0
  ih : ∀ q, q < i → ∀ (d w : Int) (out : List Fn) (G c : Nat) (cs : List Value) (lab : Lb) (W : World), 0 ≤ w → 0 ≤ wid ts ps q w → UBox W U (.slice (some ⟨g, 0, none⟩) ps.length cap) (.slice (some ⟨bw, 0, none⟩) ps.length ps.length) (.slice (some ⟨G, 0, none⟩) out.length c) → GrowL W lab (U + 1) G c out.length cs out → Below w0.heap.size w0 W → out.length + 2 * szP ps q ≤ 5000 →
    Calls Tryz.prog 48 #[.pointer (some ⟨U, 0, none⟩), .int .i64 (q : Int), .int .i64 d, .int .i64 w] W (IPost ts ps U (.slice (some ⟨g, 0, none⟩) ps.length cap) (.slice (some ⟨bw, 0, none⟩) ps.length ps.length) f q d w out G lab W)
theorem ButB.low2 {w0 W w' : World} {G U : Nat} (h : ButB (fun b => b = G ∨ b = U) W w') (hB : Below w0.heap.size w0 W) (hG : w0.heap.size ≤ G) (hU : w0.heap.size ≤ U) : Below w0.heap.size w0 w' := hB.trans (h.below hB.size (fun b e => by rcases e with e | e <;> rw [e] <;> assumption))
structure Box8 (w : World) (X : Nat) (v0 v1 v2 v3 v4 v5 v6 v7 : Value) : Prop where
  c0 : w.cell? ⟨X, 0, none⟩ = some v0
  c1 : w.cell? ⟨X, 1, none⟩ = some v1
  c2 : w.cell? ⟨X, 2, none⟩ = some v2
  c3 : w.cell? ⟨X, 3, none⟩ = some v3
  c4 : w.cell? ⟨X, 4, none⟩ = some v4
  c5 : w.cell? ⟨X, 5, none⟩ = some v5
  c6 : w.cell? ⟨X, 6, none⟩ = some v6
  c7 : w.cell? ⟨X, 7, none⟩ = some v7
  fz : ∀ o, w.frozen? ⟨X, o, none⟩ = false
  sz : X < w.heap.size
theorem Box8.butB {S : Nat → Prop} {w w1 : World} {X : Nat} {v0 v1 v2 v3 v4 v5 v6 v7 : Value} (h : Box8 w X v0 v1 v2 v3 v4 v5 v6 v7) (hb : ButB S w w1) (hn : ¬ S X) : Box8 w1 X v0 v1 v2 v3 v4 v5 v6 v7 :=
  ⟨(hb.cell X 0 h.sz hn).trans h.c0, (hb.cell X 1 h.sz hn).trans h.c1, (hb.cell X 2 h.sz hn).trans h.c2, (hb.cell X 3 h.sz hn).trans h.c3, (hb.cell X 4 h.sz hn).trans h.c4, (hb.cell X 5 h.sz hn).trans h.c5, (hb.cell X 6 h.sz hn).trans h.c6, (hb.cell X 7 h.sz hn).trans h.c7, fun o => (hb.frz X o h.sz hn).trans (h.fz o), Nat.lt_of_lt_of_le h.sz hb.size⟩
theorem Box8.of {w w1 : World} {X : Nat} {v0 v1 v2 v3 v4 v5 v6 v7 : Value} (h : Box8 w X v0 v1 v2 v3 v4 v5 v6 v7) (hb : Below w.heap.size w w1) : Box8 w1 X v0 v1 v2 v3 v4 v5 v6 v7 := h.butB (S := fun _ => False) (ButB.ofBelow hb) (fun e => e)
structure After8 (Wb wx : World) (U G X : Nat) (pl wd : Value) (lab : Lb) (r : List Fn) (fk M a : Int) (Ex : List O2) (lab2 : Lb) (G2 k2 a1 a2 : Nat) (cs2 : List Value) (A4 : Option Addr) (k4 : Nat) : Prop where
  box : Box8 wx X (.int .i64 fk) (.int .i64 0) (.int .i64 M) (.int .i64 0) (.slice A4 Ex.length k4) (.slice none 0 0) (.int .i64 a) (.int .i64 0)
  ub : UBox wx U pl wd (.slice (some ⟨G2, 0, none⟩) r.length k2)
  gl : GrowL wx lab2 (U + 1) G2 k2 r.length cs2 r
  ex : OpsM wx (.slice A4 Ex.length k4) Ex (fun b => a1 ≤ b ∧ b < a2)
  fr : Free lab2 a1 a2
  ra : Wb.heap.size ≤ a1 ∧ a2 ≤ wx.heap.size ∧ ¬ (a1 ≤ G2 ∧ G2 < a2) ∧ ¬ (a1 ≤ X ∧ X < a2)
  xl : ¬ (lab2 X).1 ≤ 2
  xg : X ≠ G2 ∧ Wb.heap.size ≤ X
  bt : ButB (fun b => b = G ∨ b = U) Wb wx
  ll : ∀ x, x < Wb.heap.size → lab2 x = lab x
  g2 : G2 = G ∨ Wb.heap.size ≤ G2
end Go.Proofs.YtnchcndcinpalaaGreatDoor
namespace Go.Proofs.YtnchcndcinpalaaGreatDoor
open Go Go.RowKit
structure Pre8 (Wb cur : World) (U G : Nat) (pl wd : Value) (lab : Lb) (r : List Fn) (Ex : List O2) (lab2 : Lb) (G2 k2 a1 a2 : Nat) (cs2 : List Value) (A4 : Option Addr) (k4 : Nat) : Prop where
  ub : UBox cur U pl wd (.slice (some ⟨G2, 0, none⟩) r.length k2)
  gl : GrowL cur lab2 (U + 1) G2 k2 r.length cs2 r
  ex : OpsM cur (.slice A4 Ex.length k4) Ex (fun b => a1 ≤ b ∧ b < a2)
  fr : Free lab2 a1 a2
  ra : Wb.heap.size ≤ a1 ∧ a2 ≤ cur.heap.size ∧ ¬ (a1 ≤ G2 ∧ G2 < a2)
  bt : ButB (fun b => b = G ∨ b = U) Wb cur
  ll : ∀ x, x < Wb.heap.size → lab2 x = lab x
  g2 : G2 = G ∨ Wb.heap.size ≤ G2
  us : U < Wb.heap.size
def put8 (w : World) (X : Nat) (v0 v1 v2 v3 v4 v5 v6 v7 : Value) : World := ((((((((w.setCell ⟨X, 0, none⟩ v0).setCell ⟨X, 1, none⟩ v1).setCell ⟨X, 2, none⟩ v2).setCell ⟨X, 3, none⟩ v3).setCell ⟨X, 4, none⟩ v4).setCell ⟨X, 5, none⟩ v5).setCell ⟨X, 6, none⟩ v6).setCell ⟨X, 7, none⟩ v7)
theorem put8_but (w : World) (X : Nat) (v0 v1 v2 v3 v4 v5 v6 v7 : Value) : ButB (fun b => b = X) w (put8 w X v0 v1 v2 v3 v4 v5 v6 v7) := by
  unfold put8
  exact ButB.set (S := fun b => b = X) (ButB.set (S := fun b => b = X) (ButB.set (S := fun b => b = X) (ButB.set (S := fun b => b = X) (ButB.set (S := fun b => b = X) (ButB.set (S := fun b => b = X) (ButB.set (S := fun b => b = X) (ButB.set (S := fun b => b = X) (ButB.refl _ _) (Or.inl rfl) _) (Or.inl rfl) _) (Or.inl rfl) _) (Or.inl rfl) _) (Or.inl rfl) _) (Or.inl rfl) _) (Or.inl rfl) _) (Or.inl rfl) _
theorem Box8.put {w : World} {X : Nat} {z0 z1 z2 z3 z4 z5 z6 z7 : Value} (h : Box8 w X z0 z1 z2 z3 z4 z5 z6 z7) (v0 v1 v2 v3 v4 v5 v6 v7 : Value) : Box8 (put8 w X v0 v1 v2 v3 v4 v5 v6 v7) X v0 v1 v2 v3 v4 v5 v6 v7 := by
  obtain ⟨c0, c1, c2, c3, c4, c5, c6, c7, fz, sz⟩ := h
  refine ⟨?_, ?_, ?_, ?_, ?_, ?_, ?_, ?_, fun o => ?_, by simpa [put8] using sz⟩
  · unfold put8; rw [setCell_otherN (by omega), setCell_otherN (by omega), setCell_otherN (by omega), setCell_otherN (by omega), setCell_otherN (by omega), setCell_otherN (by omega), setCell_otherN (by omega)]; exact World.cell?_setCell_same _ _ _ c0
  · unfold put8; rw [setCell_otherN (by omega), setCell_otherN (by omega), setCell_otherN (by omega), setCell_otherN (by omega), setCell_otherN (by omega), setCell_otherN (by omega)]; exact World.cell?_setCell_same _ _ _ (by rw [setCell_otherN (by omega)]; exact c1)
  · unfold put8; rw [setCell_otherN (by omega), setCell_otherN (by omega), setCell_otherN (by omega), setCell_otherN (by omega), setCell_otherN (by omega)]; exact World.cell?_setCell_same _ _ _ (by rw [setCell_otherN (by omega), setCell_otherN (by omega)]; exact c2)
  · unfold put8; rw [setCell_otherN (by omega), setCell_otherN (by omega), setCell_otherN (by omega), setCell_otherN (by omega)]; exact World.cell?_setCell_same _ _ _ (by rw [setCell_otherN (by omega), setCell_otherN (by omega), setCell_otherN (by omega)]; exact c3)
  · unfold put8; rw [setCell_otherN (by omega), setCell_otherN (by omega), setCell_otherN (by omega)]; exact World.cell?_setCell_same _ _ _ (by rw [setCell_otherN (by omega), setCell_otherN (by omega), setCell_otherN (by omega), setCell_otherN (by omega)]; exact c4)
  · unfold put8; rw [setCell_otherN (by omega), setCell_otherN (by omega)]; exact World.cell?_setCell_same _ _ _ (by rw [setCell_otherN (by omega), setCell_otherN (by omega), setCell_otherN (by omega), setCell_otherN (by omega), setCell_otherN (by omega)]; exact c5)
  · unfold put8; rw [setCell_otherN (by omega)]; exact World.cell?_setCell_same _ _ _ (by rw [setCell_otherN (by omega), setCell_otherN (by omega), setCell_otherN (by omega), setCell_otherN (by omega), setCell_otherN (by omega), setCell_otherN (by omega)]; exact c6)
  · unfold put8; exact World.cell?_setCell_same _ _ _ (by rw [setCell_otherN (by omega), setCell_otherN (by omega), setCell_otherN (by omega), setCell_otherN (by omega), setCell_otherN (by omega), setCell_otherN (by omega), setCell_otherN (by omega)]; exact c7)
  · unfold put8; rw [frozen_setCellN, frozen_setCellN, frozen_setCellN, frozen_setCellN, frozen_setCellN, frozen_setCellN, frozen_setCellN, frozen_setCellN]; exact fz o
theorem Box8.made (w : World) (v0 v1 v2 v3 v4 v5 v6 v7 : Value) (t : TypeId) : Box8 (w.alloc (.cells #[v0, v1, v2, v3, v4, v5, v6, v7] t)) w.heap.size v0 v1 v2 v3 v4 v5 v6 v7 :=
  ⟨by simp [go_sem], by simp [go_sem], by simp [go_sem], by simp [go_sem], by simp [go_sem], by simp [go_sem], by simp [go_sem], by simp [go_sem], fun o => by simp [go_sem], by simp⟩
section
variable {Wb cur : World} {U G : Nat} {pl wd : Value} {lab : Lb} {r : List Fn} {Ex : List O2} {lab2 : Lb} {G2 k2 a1 a2 : Nat} {cs2 : List Value} {A4 : Option Addr} {k4 : Nat}
theorem Pre8.fin2 (h : Pre8 Wb cur U G pl wd lab r Ex lab2 G2 k2 a1 a2 cs2 A4 k4) (fk M a : Int) (t : TypeId) :
    After8 Wb (cur.alloc (.cells #[.int .i64 fk, .int .i64 0, .int .i64 M, .int .i64 0, .slice A4 Ex.length k4, .slice none 0 0, .int .i64 a, .int .i64 0] t)) U G cur.heap.size pl wd lab r fk M a Ex lab2 G2 k2 a1 a2 cs2 A4 k4 := by
  have hx := bA (Below.refl cur.heap.size cur) (.cells #[.int .i64 fk, .int .i64 0, .int .i64 M, .int .i64 0, .slice A4 Ex.length k4, .slice none 0 0, .int .i64 a, .int .i64 0] t)
  have hl := h.gl.lt
  have hs := h.bt.size
  exact ⟨Box8.made _ _ _ _ _ _ _ _ _ _, h.ub.of hx, h.gl.of hx, h.ex.of hx, h.fr, ⟨h.ra.1, by have := h.ra.2.1; simp; omega, h.ra.2.2, by have := h.ra.2.1; omega⟩, fun e => by have := h.gl.rng _ e; omega, ⟨by omega, hs⟩, h.bt.trans (ButB.ofBelow hx), h.ll, h.g2⟩
theorem Pre8.fin1 (h : Pre8 Wb cur U G pl wd lab r Ex lab2 G2 k2 a1 a2 cs2 A4 k4) {X : Nat} {z0 z1 z2 z3 z4 z5 z6 z7 : Value} (hb : Box8 cur X z0 z1 z2 z3 z4 z5 z6 z7) (hX : Wb.heap.size ≤ X) (h1 : ¬ (a1 ≤ X ∧ X < a2)) (h2 : ¬ (lab2 X).1 ≤ 2) (h3 : X ≠ G2) (fk M a : Int) :
    After8 Wb (put8 cur X (.int .i64 fk) (.int .i64 0) (.int .i64 M) (.int .i64 0) (.slice A4 Ex.length k4) (.slice none 0 0) (.int .i64 a) (.int .i64 0)) U G X pl wd lab r fk M a Ex lab2 G2 k2 a1 a2 cs2 A4 k4 := by
  have hx := put8_but cur X (.int .i64 fk) (.int .i64 0) (.int .i64 M) (.int .i64 0) (.slice A4 Ex.length k4) (.slice none 0 0) (.int .i64 a) (.int .i64 0)
  have hs := hx.size
  exact ⟨hb.put _ _ _ _ _ _ _ _, h.ub.butB hx (by have := h.us; omega), h.gl.butB hx (by omega) (fun b e e' => by subst e'; exact h2 e), h.ex.butB hx (fun b e e' => by omega), h.fr, ⟨h.ra.1, by have := h.ra.2.1; omega, h.ra.2.2, h1⟩, h2, ⟨h3, hX⟩, h.bt.trans' hx (fun b e => Or.inr (by omega)), h.ll, h.g2⟩
end
structure StA (w0 Wb cur : World) (U G c : Nat) (pl wd : Value) (lab : Lb) (out : List Fn) (cs : List Value) : Prop where
  ub : UBox cur U pl wd (.slice (some ⟨G, 0, none⟩) out.length c)
  gl : GrowL cur lab (U + 1) G c out.length cs out
  lo : Below w0.heap.size w0 cur
  bt : Below Wb.heap.size Wb cur
  gw : G < Wb.heap.size ∧ U < Wb.heap.size
  nl : ∀ x, Wb.heap.size ≤ x → ¬ (lab x).1 ≤ 2
theorem StA.of {w0 Wb cur w1 : World} {U G c : Nat} {pl wd : Value} {lab : Lb} {out : List Fn} {cs : List Value} (h : StA w0 Wb cur U G c pl wd lab out cs) (hb : Below cur.heap.size cur w1) : StA w0 Wb w1 U G c pl wd lab out cs :=
  ⟨h.ub.of hb, h.gl.of hb, h.lo.trans (hb.mono h.lo.size), bT h.bt hb, h.gw, h.nl⟩
structure StB (w0 Wb cur : World) (U G c : Nat) (pl wd : Value) (lab : Lb) (out : List Fn) (cs : List Value) (Ex : List O2) (A4 : Option Addr) (k4 a1 a2 : Nat) : Prop where
  a : StA w0 Wb cur U G c pl wd lab out cs
  ex : OpsM cur (.slice A4 Ex.length k4) Ex (fun b => a1 ≤ b ∧ b < a2)
  fr : Free lab a1 a2
  ra : Wb.heap.size ≤ a1 ∧ a2 ≤ cur.heap.size
theorem StB.of {w0 Wb cur w1 : World} {U G c : Nat} {pl wd : Value} {lab : Lb} {out : List Fn} {cs : List Value} {Ex : List O2} {A4 : Option Addr} {k4 a1 a2 : Nat} (h : StB w0 Wb cur U G c pl wd lab out cs Ex A4 k4 a1 a2) (hb : Below cur.heap.size cur w1) : StB w0 Wb w1 U G c pl wd lab out cs Ex A4 k4 a1 a2 :=
  ⟨h.a.of hb, h.ex.of hb, h.fr, h.ra.1, Nat.le_trans h.ra.2 hb.size⟩
theorem StA.clone {w0 Wb cur w1 : World} {U G c : Nat} {pl wd : Value} {lab : Lb} {out : List Fn} {cs : List Value} {Ex : List O2} {A4 : Option Addr} {k4 : Nat} (h : StA w0 Wb cur U G c pl wd lab out cs) (hb : Below cur.heap.size cur w1) (hu : OpsM w1 (.slice A4 Ex.length k4) Ex (fun b => cur.heap.size ≤ b)) : StB w0 Wb w1 U G c pl wd lab out cs Ex A4 k4 cur.heap.size w1.heap.size :=
  ⟨h.of hb, hu.mono (fun _ hb e => ⟨e, hb⟩), h.gl.free, h.bt.size, Nat.le_refl _⟩
theorem StB.unn {w0 Wb cur w1 : World} {U G c : Nat} {pl wd : Value} {lab : Lb} {out : List Fn} {cs : List Value} {Ex : List O2} {A4 : Option Addr} {k4 a1 a2 : Nat} (h : StB w0 Wb cur U G c pl wd lab out cs Ex A4 k4 a1 a2) {r : List Fn} {lab2 : Lb} {G2 k2 : Nat} {cs2 : List Value}
    (hu : UBox w1 U pl wd (.slice (some ⟨G2, 0, none⟩) r.length k2)) (hl : GrowL w1 lab2 (U + 1) G2 k2 r.length cs2 r) (hll : ∀ x, x < cur.heap.size → lab2 x = lab x) (hb : ButB (fun b => b = G ∨ b = U) cur w1) (hg : G2 = G ∨ cur.heap.size ≤ G2) :
    Pre8 Wb w1 U G pl wd lab r Ex lab2 G2 k2 a1 a2 cs2 A4 k4 ∧ ∀ X, Wb.heap.size ≤ X → X < cur.heap.size → ¬ (lab2 X).1 ≤ 2 ∧ X ≠ G2 := by
  have h1 := h.ra; have h2 := h.a.bt.size; have h3 := hb.size; have h4 := h.a.gw
  refine ⟨⟨hu, hl, h.ex.butB hb (fun b e e' => by omega), h.fr.keep h1.2 hll, ⟨h1.1, by omega, by omega⟩, (ButB.ofBelow h.a.bt).trans hb, fun x hx => hll x (by omega), hg.imp id (fun e => by omega), h4.2⟩, fun X hX1 hX2 => ⟨fun e => ?_, by omega⟩⟩
  rw [hll X hX2] at e
  exact h.a.nl X hX1 e
theorem Pre8.of {Wb cur w1 : World} {U G : Nat} {pl wd : Value} {lab : Lb} {r : List Fn} {Ex : List O2} {lab2 : Lb} {G2 k2 a1 a2 : Nat} {cs2 : List Value} {A4 : Option Addr} {k4 : Nat} (h : Pre8 Wb cur U G pl wd lab r Ex lab2 G2 k2 a1 a2 cs2 A4 k4) (hb : Below cur.heap.size cur w1) : Pre8 Wb w1 U G pl wd lab r Ex lab2 G2 k2 a1 a2 cs2 A4 k4 :=
  ⟨h.ub.of hb, h.gl.of hb, h.ex.of hb, h.fr, ⟨h.ra.1, Nat.le_trans h.ra.2.1 hb.size, h.ra.2.2⟩, h.bt.trans (ButB.ofBelow hb), h.ll, h.g2, h.us⟩
theorem FrO.owns {w : World} {G n s : Nat} (h : FrO w G n) (hs : s ≤ G) (hn : n ≤ 1048576) : ∃ cs : List Value, cs.length = n ∧ w.ownsRow s 64 1 (.slice (some ⟨G, 0, none⟩) n n) n cs ∧ (∀ (i : Nat) u, cs[i]? = some u → w.cell? ⟨G, i, none⟩ = some u) := by
  obtain ⟨cur, h1, h2⟩ := h.blk
  refine ⟨cur.toList, by simp [h2], ⟨by simp [h2], Or.inr ⟨G, n, cur, rfl, hs, h1, Nat.le_refl _, by unfold maxLen; omega, by omega, by rw [List.take_of_length_le (by simp [h2])]⟩⟩, fun i u hu => ?_⟩
  simp only [World.cell?, h1]
  simpa using hu
theorem labP_zero (lab : Lb) (n g : Nat) (lb : Nat → Nat) : labP lab n 0 0 0 0 g lb = lab := by
  funext x
  unfold labP
  rw [if_neg (by omega), if_neg (by omega)]
end Go.Proofs.YtnchcndcinpalaaGreatDoor
namespace Go.Proofs.YtnchcndcinpalaaGreatDoor
open Go Go.RowKit
set_option maxRecDepth 100000 in
set_option maxHeartbeats 8000000 in
theorem I_1 (ts : List Tb) (ps : List Pn) (g cap bw U : Nat) (w0 : World) (f i : Nat) (H : IHyp ts ps g cap bw U w0 f i) (hi : i < ps.length) (hif : i ≤ f) (hK : (ps[i]).K = 1) (d w : Int) (out : List Fn) (G c : Nat) (cs : List Value) (lab : Lb) (W : World) (hw0 : 0 ≤ w) (hw : 0 ≤ wid ts ps i w) (hU : UBox W U (.slice (some ⟨g, 0, none⟩) ps.length cap) (.slice (some ⟨bw, 0, none⟩) ps.length ps.length) (.slice (some ⟨G, 0, none⟩) out.length c)) (hL : GrowL W lab (U + 1) G c out.length cs out) (hB : Below w0.heap.size w0 W) (hlen : out.length + 2 * szP ps i ≤ 5000) :
    Calls Tryz.prog 48 #[.pointer (some ⟨U, 0, none⟩), .int .i64 (i : Int), .int .i64 d, .int .i64 w] W (IPost ts ps U (.slice (some ⟨g, 0, none⟩) ps.length cap) (.slice (some ⟨bw, 0, none⟩) ps.length ps.length) (f + 1) i d w out G lab W) := by
  have hp : ps[i]? = some ps[i] := List.getElem?_eq_getElem hi
  have _u := And.intro hif (And.intro hw0 hlen)
  clear _u
  obtain ⟨e0, e1, e2, e5, e6, ⟨b3, e3, _, h3s, ho3⟩, b4, e4, _, h4s, ho4⟩ := H.base.hn.at i hi
  simp only [Nat.zero_add] at e0 e1 e2 e3 e4 e5 e6
  have hg0 := H.base.hg
  have c0 := (hB.cell (p := ⟨g, i * 7, none⟩) hg0).trans e0
  have c1 := (hB.cell (p := ⟨g, i * 7 + 1, none⟩) hg0).trans e1
  have c2 := (hB.cell (p := ⟨g, i * 7 + 2, none⟩) hg0).trans e2
  have c3 := (hB.cell (p := ⟨g, i * 7 + 3, none⟩) hg0).trans e3
  have c4 := (hB.cell (p := ⟨g, i * 7 + 4, none⟩) hg0).trans e4
  have c5 := (hB.cell (p := ⟨g, i * 7 + 5, none⟩) hg0).trans e5
  have c6 := (hB.cell (p := ⟨g, i * 7 + 6, none⟩) hg0).trans e6
  have q1 : g < W.heap.size := Nat.lt_of_lt_of_le hg0 hB.size
  have j1 : (i : Int) < (ps.length : Int) := by omega
  have hw2 := wid_w hw
  have hfew := H.base.few
  have hsp := szP_pos (ps := ps) i
  have hGl := hL.lt
  have hBs := hB.size
  have hUl := H.base.low
  have u0 := hU.c0
  have us := hU.sz
  clear e0 e1 e2 e3 e4 e5 e6
  show Calls _ _ _ _ (IPostX U (.slice (some ⟨g, 0, none⟩) ps.length cap) (.slice (some ⟨bw, 0, none⟩) ps.length ps.length) (uN ts ps (f + 1) i d w out).1 (uN ts ps (f + 1) i d w out).2 G lab W)
  rw [uN_1 hp hK]
  dsimp only
  have HL := hide hL; have HU := hide hU
  generalize ps[i] = p at *
  rw [hK] at c0
  clear H ho3 ho4 hL hU hlen hw hp
  go_enter Tryz.func48, Tryz.ntmps48
  go_wp2
  go_ret
  exact ⟨lab, G, c, cs, rfl, (unhide HU).of (bA (Below.refl _ _) _), (unhide HL).of (bA (Below.refl _ _) _), fun _ _ => rfl, ButB.ofBelow (bA (Below.refl _ _) _), Or.inl rfl⟩
end Go.Proofs.YtnchcndcinpalaaGreatDoor
namespace Go.Proofs.YtnchcndcinpalaaGreatDoor
open Go Go.RowKit
set_option maxRecDepth 100000 in
set_option maxHeartbeats 8000000 in
theorem I_2 (ts : List Tb) (ps : List Pn) (g cap bw U : Nat) (w0 : World) (f i : Nat) (H : IHyp ts ps g cap bw U w0 f i) (hi : i < ps.length) (hif : i ≤ f) (hK : (ps[i]).K = 2) (d w : Int) (out : List Fn) (G c : Nat) (cs : List Value) (lab : Lb) (W : World) (hw0 : 0 ≤ w) (hw : 0 ≤ wid ts ps i w) (hU : UBox W U (.slice (some ⟨g, 0, none⟩) ps.length cap) (.slice (some ⟨bw, 0, none⟩) ps.length ps.length) (.slice (some ⟨G, 0, none⟩) out.length c)) (hL : GrowL W lab (U + 1) G c out.length cs out) (hB : Below w0.heap.size w0 W) (hlen : out.length + 2 * szP ps i ≤ 5000) :
    Calls Tryz.prog 48 #[.pointer (some ⟨U, 0, none⟩), .int .i64 (i : Int), .int .i64 d, .int .i64 w] W (IPost ts ps U (.slice (some ⟨g, 0, none⟩) ps.length cap) (.slice (some ⟨bw, 0, none⟩) ps.length ps.length) (f + 1) i d w out G lab W) := by
  have hp : ps[i]? = some ps[i] := List.getElem?_eq_getElem hi
  have _u := And.intro hif (And.intro hw0 hlen)
  clear _u
  obtain ⟨e0, e1, e2, e5, e6, ⟨b3, e3, _, h3s, ho3⟩, b4, e4, _, h4s, ho4⟩ := H.base.hn.at i hi
  simp only [Nat.zero_add] at e0 e1 e2 e3 e4 e5 e6
  have hg0 := H.base.hg
  have c0 := (hB.cell (p := ⟨g, i * 7, none⟩) hg0).trans e0
  have c1 := (hB.cell (p := ⟨g, i * 7 + 1, none⟩) hg0).trans e1
  have c2 := (hB.cell (p := ⟨g, i * 7 + 2, none⟩) hg0).trans e2
  have c3 := (hB.cell (p := ⟨g, i * 7 + 3, none⟩) hg0).trans e3
  have c4 := (hB.cell (p := ⟨g, i * 7 + 4, none⟩) hg0).trans e4
  have c5 := (hB.cell (p := ⟨g, i * 7 + 5, none⟩) hg0).trans e5
  have c6 := (hB.cell (p := ⟨g, i * 7 + 6, none⟩) hg0).trans e6
  have q1 : g < W.heap.size := Nat.lt_of_lt_of_le hg0 hB.size
  have j1 : (i : Int) < (ps.length : Int) := by omega
  have hw2 := wid_w hw
  have hfew := H.base.few
  have hsp := szP_pos (ps := ps) i
  have hGl := hL.lt
  have hBs := hB.size
  have hUl := H.base.low
  have u0 := hU.c0
  have us := hU.sz
  clear e0 e1 e2 e3 e4 e5 e6
  show Calls _ _ _ _ (IPostX U (.slice (some ⟨g, 0, none⟩) ps.length cap) (.slice (some ⟨bw, 0, none⟩) ps.length ps.length) (uN ts ps (f + 1) i d w out).1 (uN ts ps (f + 1) i d w out).2 G lab W)
  rw [uN_2 hp hK]
  dsimp only
  generalize ps[i] = p at *
  obtain ⟨K, T, M, Ex, Exs, L, R⟩ := p
  simp only at c0 c1 c2 c3 c4 c5 c6 hK ho3 ho4
  subst hK
  clear H ho3 ho4 hw hp
  have hx := bA (Below.refl W.heap.size W) (.cells #[.int .i64 2, .int .i64 T, .int .i64 M, .slice (some ⟨b3, 0, none⟩) Ex.length Ex.length, .slice (some ⟨b4, 0, none⟩) Exs.length Exs.length, .int .i64 L, .int .i64 R] 130)
  have HA1 := hide (add_calls 2 T 0 0 0 0 [] [] none none 0 0 0 0 U G c out.length lab cs out (.slice (some ⟨g, 0, none⟩) ps.length cap) (.slice (some ⟨bw, 0, none⟩) ps.length ps.length) _ 0 0 0 0 0 (fun _ => 0) (hU.of hx) (hL.of hx) (by omega) (fun x _ h => by omega) (fun x _ h => by omega) (fun h => by omega) (fun h => by omega) (fun h => by omega) (Or.inl ⟨rfl, _, _, rfl⟩) (Or.inl ⟨rfl, _, _, rfl⟩))
  rw [labP_zero] at HA1
  have HX := hide hx
  clear hx hU hL
  go_enter Tryz.func48, Tryz.ntmps48
  go_wp2_with fail
  refine (unhide HA1).mono ?_; rintro e w2 ⟨G2, k2, rfl, hU2, hL2, hBt2, hG2⟩
  have hG2' : G2 = G ∨ W.heap.size ≤ G2 := hG2.imp id (fun h => by simp at h; omega)
  have HB2 : Hid (ButB (fun b => b = G ∨ b = U) W w2) := (ButB.ofBelow (unhide HX)).trans hBt2
  have hl2 := hL2.lt
  have hz2 := (unhide HB2).size
  have HA2 := hide (add_calls 5 0 0 0 d (out.length : Int) [] [] none none 0 0 0 0 U G2 k2 (out.length + 1) lab _ _ (.slice (some ⟨g, 0, none⟩) ps.length cap) (.slice (some ⟨bw, 0, none⟩) ps.length ps.length) w2 0 0 0 0 0 (fun _ => 0) hU2 hL2 (by omega) (fun x _ h => by omega) (fun x _ h => by omega) (fun h => by omega) (fun h => by omega) (fun h => by omega) (Or.inl ⟨rfl, _, _, rfl⟩) (Or.inl ⟨rfl, _, _, rfl⟩))
  rw [labP_zero] at HA2
  clear hU2 hL2 hBt2 hG2 HA1 c0 c1 c2 c3 c4 c5 c6 u0
  go_wp2_with fail
  refine (unhide HA2).mono ?_; rintro e w3 ⟨G3, k3, rfl, hU3, hL3, hBt3, hG3⟩
  have HU3 := hide hU3; have HL3 := hide hL3
  have HB3 : Hid (ButB (fun b => b = G ∨ b = U) W w3) := (unhide HB2).trans' hBt3 (fun b e => by omega)
  have hG3' : G3 = G ∨ W.heap.size ≤ G3 := by omega
  clear hU3 hL3 hBt3 HA2
  go_wp2
  go_ret
  have hlr : (out ++ [(⟨2, T, 0, 0, [], [], 0, 0⟩ : Fn)] ++ [(⟨5, 0, 0, 0, [], [], d, (out.length : Int)⟩ : Fn)]).length = out.length + 1 + 1 := by simp
  exact ⟨lab, G3, k3, _, by first | rfl | simp [go_sem], by rw [hlr]; exact unhide HU3, by rw [hlr]; exact unhide HL3, fun _ _ => rfl, unhide HB3, hG3'⟩
end Go.Proofs.YtnchcndcinpalaaGreatDoor
