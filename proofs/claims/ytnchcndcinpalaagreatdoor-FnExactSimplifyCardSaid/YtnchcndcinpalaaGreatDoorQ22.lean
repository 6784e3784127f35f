import Derived.Test.YtnchcndcinpalaaGreatDoorQ4
import Derived.Test.YtnchcndcinpalaaGreatDoorQ5
import Derived.Deep.RegionHeld3
import Derived.Deep.DeepCutAuto
import Derived.Test.YtnchcndcinpalaaGreatDoorSimpGrow
/-
  MARKS written into flat plans of the call's own.
-/
namespace Go.Proofs.YtnchcndcinpalaaGreatDoor
open Go Go.RowKit

/-- which part of a flat plan a block is: (0, i, 0) the Ex of node i, (1, i, 0) its Exs, (2, i, j) the list j of them, (3, 0, 0) the nodes -/
abbrev Lb : Type := Nat → Nat × Nat × Nat
structure FnM (w : World) (lab : Lb) (G i : Nat) (p : Fn) : Prop where
  c0 : w.cell? ⟨G, i * 8, none⟩ = some (.int .i64 p.K)
  c1 : w.cell? ⟨G, i * 8 + 1, none⟩ = some (.int .i64 p.T)
  c2 : w.cell? ⟨G, i * 8 + 2, none⟩ = some (.int .i64 p.M)
  c3 : w.cell? ⟨G, i * 8 + 3, none⟩ = some (.int .i64 p.W)
  c6 : w.cell? ⟨G, i * 8 + 6, none⟩ = some (.int .i64 p.L)
  c7 : w.cell? ⟨G, i * 8 + 7, none⟩ = some (.int .i64 p.R)
  ex : ∃ u, w.cell? ⟨G, i * 8 + 4, none⟩ = some u ∧ OpsM w u p.Ex (fun b => lab b = (0, i, 0))
  exs : ∃ u, w.cell? ⟨G, i * 8 + 5, none⟩ = some u ∧ OpssM w u p.Exs (fun b => lab b = (1, i, 0)) (fun j b => lab b = (2, i, j))
theorem FnM.of {w w1 : World} {lab : Lb} {G i : Nat} {p : Fn} (h : FnM w lab G i p) (hg : G < w.heap.size) (hb : Below w.heap.size w w1) : FnM w1 lab G i p := by
  obtain ⟨c0, c1, c2, c3, c6, c7, ⟨u, c4, h4⟩, u', c5, h5⟩ := h
  exact ⟨(hb.cell (p := ⟨G, i * 8, none⟩) hg).trans c0, (hb.cell (p := ⟨G, i * 8 + 1, none⟩) hg).trans c1, (hb.cell (p := ⟨G, i * 8 + 2, none⟩) hg).trans c2, (hb.cell (p := ⟨G, i * 8 + 3, none⟩) hg).trans c3, (hb.cell (p := ⟨G, i * 8 + 6, none⟩) hg).trans c6, (hb.cell (p := ⟨G, i * 8 + 7, none⟩) hg).trans c7,
    ⟨u, (hb.cell (p := ⟨G, i * 8 + 4, none⟩) hg).trans c4, h4.of hb⟩, u', (hb.cell (p := ⟨G, i * 8 + 5, none⟩) hg).trans c5, h5.of hb⟩
theorem FnM.but {w w1 : World} {lab : Lb} {G i : Nat} {p : Fn} {T : Nat → Prop} (h : FnM w lab G i p) (hg : G < w.heap.size) (hb : ButM T w w1) (hG : ¬ T G) (h0 : ∀ b, lab b = (0, i, 0) → ¬ T b) (h1 : ∀ b, lab b = (1, i, 0) → ¬ T b) (h2 : ∀ j b, lab b = (2, i, j) → ¬ T b) : FnM w1 lab G i p := by
  obtain ⟨c0, c1, c2, c3, c6, c7, ⟨u, c4, h4⟩, u', c5, h5⟩ := h
  exact ⟨(hb.cell G _ hg hG).trans c0, (hb.cell G _ hg hG).trans c1, (hb.cell G _ hg hG).trans c2, (hb.cell G _ hg hG).trans c3, (hb.cell G _ hg hG).trans c6, (hb.cell G _ hg hG).trans c7,
    ⟨u, (hb.cell G _ hg hG).trans c4, h4.but hb h0⟩, u', (hb.cell G _ hg hG).trans c5, h5.but hb h1 h2⟩
/-- a cell of the nodes' block outside the node is written -/
theorem FnM.far {w : World} {lab : Lb} {G i : Nat} {p : Fn} (h : FnM w lab G i p) (hl : lab G = (3, 0, 0)) {O : Nat} (hO : O < i * 8 ∨ i * 8 + 7 < O) (v : Value) : FnM (w.setCell ⟨G, O, none⟩ v) lab G i p := by
  obtain ⟨c0, c1, c2, c3, c6, c7, ⟨u, c4, h4⟩, u', c5, h5⟩ := h
  have hB : ButM (fun b => b = G) w (w.setCell ⟨G, O, none⟩ v) := ButM.set (S := fun b => b = G) (ButM.refl _ _) rfl v
  have hk : ∀ k, k ≤ 7 → (w.setCell ⟨G, O, none⟩ v).cell? ⟨G, i * 8 + k, none⟩ = w.cell? ⟨G, i * 8 + k, none⟩ := fun k hk => by rw [setCell_otherN (by omega)]
  have h0 := hk 0 (by omega)
  rw [Nat.add_zero] at h0
  have d : ∀ b x, lab b = x → x ≠ (3, 0, 0) → ¬ b = G := fun b x hb hx e => hx (by rw [← hb, e, hl])
  exact ⟨h0.trans c0, (hk 1 (by omega)).trans c1, (hk 2 (by omega)).trans c2, (hk 3 (by omega)).trans c3, (hk 6 (by omega)).trans c6, (hk 7 (by omega)).trans c7,
    ⟨u, (hk 4 (by omega)).trans c4, h4.but hB (fun b hb => d b _ hb (by simp))⟩, u', (hk 5 (by omega)).trans c5, h5.but hB (fun b hb => d b _ hb (by simp)) (fun j b hb => d b _ hb (by simp))⟩
theorem FnM.is {w : World} {lab : Lb} {G i : Nat} {p : Fn} (h : FnM w lab G i p) : (∃ u, w.cell? ⟨G, i * 8 + 4, none⟩ = some u ∧ IsOps w u p.Ex) ∧ ∃ u, w.cell? ⟨G, i * 8 + 5, none⟩ = some u ∧ IsOpss w u p.Exs := by
  obtain ⟨u, c4, h4⟩ := h.ex
  obtain ⟨u', c5, h5⟩ := h.exs
  exact ⟨⟨u, c4, h4.is⟩, u', c5, h5.is⟩
/-- a flat plan's nodes of the call's own, block by block -/
structure FlM (w : World) (lab : Lb) (G : Nat) (fs : List Fn) : Prop where
  size : G < w.heap.size
  lab3 : lab G = (3, 0, 0)
  frz : ∀ o, w.frozen? ⟨G, o, none⟩ = false
  all : ∀ o, o < fs.length * 8 → ∃ v, w.cell? ⟨G, o, none⟩ = some v
  node : ∀ i p, fs[i]? = some p → FnM w lab G i p
theorem FlM.of {w w1 : World} {lab : Lb} {G : Nat} {fs : List Fn} (h : FlM w lab G fs) (hb : Below w.heap.size w w1) : FlM w1 lab G fs :=
  ⟨Nat.lt_of_lt_of_le h.size hb.size, h.lab3, fun o => (hb.frozen (p := ⟨G, o, none⟩) h.size).trans (h.frz o), fun o ho => by
    obtain ⟨v, hv⟩ := h.all o ho
    exact ⟨v, (hb.cell (p := ⟨G, o, none⟩) h.size).trans hv⟩, fun i p hp => (h.node i p hp).of h.size hb⟩
theorem FlM.but {w w1 : World} {lab : Lb} {G : Nat} {fs : List Fn} {T : Nat → Prop} (h : FlM w lab G fs) (hb : ButM T w w1) (hT : ∀ b, (lab b).1 ≤ 3 → ¬ T b) : FlM w1 lab G fs :=
  ⟨Nat.lt_of_lt_of_le h.size hb.size, h.lab3, fun o => (hb.frz G o h.size).trans (h.frz o), fun o ho => by
    rw [hb.cell G o h.size (hT G (by rw [h.lab3]; omega))]; exact h.all o ho, fun i p hp => (h.node i p hp).but h.size hb (hT G (by rw [h.lab3]; omega)) (fun b e => hT b (by rw [e]; omega)) (fun b e => hT b (by rw [e]; omega)) (fun j b e => hT b (by rw [e]; omega))⟩
theorem FlM.isFns {w : World} {lab : Lb} {G : Nat} {fs : List Fn} (h : FlM w lab G fs) (cap : Nat) : IsFns w (.slice (some ⟨G, 0, none⟩) fs.length cap) fs := by
  refine Or.inr ⟨G, 0, cap, rfl, h.size, fun i p hp => ?_⟩
  have hn := h.node i p hp
  obtain ⟨h4, h5⟩ := hn.is
  rw [Nat.zero_add]
  exact ⟨hn.c0, hn.c1, hn.c2, hn.c3, hn.c6, hn.c7, h4, h5⟩

/-- how many numbers a node takes -/
def kN (p : Fn) : Nat := 6 + 2 * p.Ex.length + 2 * bulkO p.Exs
def kNs : List Fn → Nat
  | [] => 0
  | p :: r => kN p + kNs r
theorem kNs_append (a b : List Fn) : kNs (a ++ b) = kNs a + kNs b := by
  induction a with
  | nil => simp [kNs]
  | cons x a ih => simp only [List.cons_append, kNs, ih]; omega
theorem kNs_take (fs : List Fn) (k : Nat) (hk : k < fs.length) : kNs (fs.take (k + 1)) = kNs (fs.take k) + kN fs[k] := by
  rw [take_snocN fs k hk, kNs_append]; simp [kNs]
theorem kNs_take_le (fs : List Fn) (k : Nat) : kNs (fs.take k) ≤ kNs fs := by
  have := kNs_append (fs.take k) (fs.drop k)
  rw [List.take_append_drop] at this
  omega
/-- a node marked from k on -/
def mFn (k : Nat) (p : Fn) : Fn := ⟨(k : Int), (k : Int) + 1, (k : Int) + 2, (k : Int) + 3, mOps (k + 4) p.Ex.length, mOpss (k + 4 + 2 * p.Ex.length) p.Exs, ((k + 4 + 2 * p.Ex.length + 2 * bulkO p.Exs : Nat) : Int), ((k + 4 + 2 * p.Ex.length + 2 * bulkO p.Exs : Nat) : Int) + 1⟩
def mFns (k : Nat) (fs : List Fn) : List Fn := (List.range fs.length).map fun j => mFn (k + kNs (fs.take j)) (fs.getD j ⟨0, 0, 0, 0, [], [], 0, 0⟩)
theorem mFns_length (k : Nat) (fs : List Fn) : (mFns k fs).length = fs.length := by simp [mFns]
theorem mFns_at (k : Nat) (fs : List Fn) (j : Nat) (h : j < fs.length) : (mFns k fs)[j]? = some (mFn (k + kNs (fs.take j)) fs[j]) := by simp [mFns, h]

set_option maxRecDepth 100000 in
set_option maxHeartbeats 4000000 in
theorem markFNodeS_calls (fs : List Fn) (lab : Lb) (G cap k : Nat) (w : World) (h : FlM w lab G fs) (b1 : fs.length ≤ 1048576) (b2 : ∀ p ∈ fs, p.Ex.length ≤ 1048576 ∧ p.Exs.length ≤ 1048576 ∧ ∀ xs ∈ p.Exs, xs.length ≤ 1048576) (bk : k + kNs fs ≤ 536870912) :
    Calls Tryz.prog 39 #[.slice (some ⟨G, 0, none⟩) fs.length cap, .int .i64 k] w fun e w' => e = .returned (.int .i64 ((k + kNs fs : Nat) : Int)) ∧ FlM w' lab G (mFns k fs) ∧ ButM (fun b => (lab b).1 ≤ 3) w w' := by
  have hG := h.size
  have hl3 := h.lab3
  have HNd := hide h.node; have HB2 := hide b2; have HFz := hide h.frz; have HAll := hide h.all
  clear h b2
  go_enter Tryz.func39, Tryz.ntmps39
  go_wp2
  go_loopw [1, 5] (fun c s wr => ∃ i : Nat, i ≤ fs.length ∧ s = .int .i64 i ∧ c = .int .i64 ((k + kNs (fs.take i) : Nat) : Int) ∧ (∀ j p, fs[j]? = some p → FnM wr lab G j (if j < i then mFn (k + kNs (fs.take j)) p else p)) ∧ ButM (fun b => (lab b).1 ≤ 3) w wr) (fun _ s _ => fs.length - (intOf s).toNat)
  case atStart => exact ⟨0, Nat.zero_le _, rfl, by simp [kNs], fun j p hp => by rw [if_neg (by omega)]; exact unhide HNd j p hp, ButM.refl _ _⟩
  case round =>
    obtain ⟨i, hi, rfl, rfl, hM, hB⟩ := hrel
    by_cases hlt : i < fs.length
    · have j1 : (i : Int) < (fs.length : Int) := by omega
      have hn := hM i fs[i] (List.getElem?_eq_getElem hlt)
      rw [if_neg (by omega)] at hn
      have q1 : G < wr.heap.size := Nat.lt_of_lt_of_le hG hB.size
      have hf : ∀ o, wr.frozen? ⟨G, o, none⟩ = false := fun o => (hB.frz G o hG).trans (unhide HFz o)
      obtain ⟨x1, x2, x3⟩ := unhide HB2 _ (List.getElem_mem hlt)
      have hk1 := kNs_take fs i hlt
      have hk2 := kNs_take_le fs (i + 1)
      have hkN : kN fs[i] = 6 + 2 * (fs[i]).Ex.length + 2 * bulkO (fs[i]).Exs := rfl
      obtain ⟨j, hj⟩ : ∃ j, j = k + kNs (fs.take i) := ⟨_, rfl⟩
      have hjb : j + kN fs[i] ≤ 536870912 := by omega
      obtain ⟨c0, c1, c2, c3, c6, c7, ⟨u, c4, h4⟩, u', c5, h5⟩ := hn
      have HM := hide hM; have HB := hide hB
      have HK1 : Hid (k + kNs (fs.take (i + 1)) = j + kN fs[i]) := by show _ = _; omega
      rw [← hj] 
      have HJ := hide hj
      clear hM hB hj hk1 hk2
      generalize hp : fs[i] = p at *
      have HP := hide hp
      clear hp
      -- the four first numbers are written
      have hBa : ButM (fun b => b = G) wr ((((wr.setCell ⟨G, i * 8, none⟩ (.int .i64 (j : Int))).setCell ⟨G, i * 8 + 1, none⟩ (.int .i64 ((j : Int) + 1))).setCell ⟨G, i * 8 + 2, none⟩ (.int .i64 ((j : Int) + 1 + 1))).setCell ⟨G, i * 8 + 3, none⟩ (.int .i64 ((j : Int) + 1 + 1 + 1))) := ButM.set (S := fun b => b = G) (ButM.set (S := fun b => b = G) (ButM.set (S := fun b => b = G) (ButM.set (S := fun b => b = G) (ButM.refl _ _) rfl _) rfl _) rfl _) rfl _
      have dG : ∀ b x, lab b = x → x ≠ (3, 0, 0) → ¬ b = G := fun b x hb hx e => hx (by rw [← hb, e, hl3])
      have h4a := h4.but hBa (fun b hb => dG b _ hb (by simp))
      have h5a := h5.but hBa (fun b hb => dG b _ hb (by simp)) (fun j b hb => dG b _ hb (by simp))
      have n0 : ((((wr.setCell ⟨G, i * 8, none⟩ (.int .i64 (j : Int))).setCell ⟨G, i * 8 + 1, none⟩ (.int .i64 ((j : Int) + 1))).setCell ⟨G, i * 8 + 2, none⟩ (.int .i64 ((j : Int) + 1 + 1))).setCell ⟨G, i * 8 + 3, none⟩ (.int .i64 ((j : Int) + 1 + 1 + 1))).cell? ⟨G, i * 8, none⟩ = some (.int .i64 (j : Int)) := by
        rw [setCell_otherN (by omega), setCell_otherN (by omega), setCell_otherN (by omega)]; exact World.cell?_setCell_same _ _ _ c0
      have n1 : ((((wr.setCell ⟨G, i * 8, none⟩ (.int .i64 (j : Int))).setCell ⟨G, i * 8 + 1, none⟩ (.int .i64 ((j : Int) + 1))).setCell ⟨G, i * 8 + 2, none⟩ (.int .i64 ((j : Int) + 1 + 1))).setCell ⟨G, i * 8 + 3, none⟩ (.int .i64 ((j : Int) + 1 + 1 + 1))).cell? ⟨G, i * 8 + 1, none⟩ = some (.int .i64 ((j : Int) + 1)) := by
        rw [setCell_otherN (by omega), setCell_otherN (by omega)]; exact World.cell?_setCell_same _ _ _ (by rw [setCell_otherN (by omega)]; exact c1)
      have n2 : ((((wr.setCell ⟨G, i * 8, none⟩ (.int .i64 (j : Int))).setCell ⟨G, i * 8 + 1, none⟩ (.int .i64 ((j : Int) + 1))).setCell ⟨G, i * 8 + 2, none⟩ (.int .i64 ((j : Int) + 1 + 1))).setCell ⟨G, i * 8 + 3, none⟩ (.int .i64 ((j : Int) + 1 + 1 + 1))).cell? ⟨G, i * 8 + 2, none⟩ = some (.int .i64 ((j : Int) + 1 + 1)) := by
        rw [setCell_otherN (by omega)]; exact World.cell?_setCell_same _ _ _ (by rw [setCell_otherN (by omega), setCell_otherN (by omega)]; exact c2)
      have n3 : ((((wr.setCell ⟨G, i * 8, none⟩ (.int .i64 (j : Int))).setCell ⟨G, i * 8 + 1, none⟩ (.int .i64 ((j : Int) + 1))).setCell ⟨G, i * 8 + 2, none⟩ (.int .i64 ((j : Int) + 1 + 1))).setCell ⟨G, i * 8 + 3, none⟩ (.int .i64 ((j : Int) + 1 + 1 + 1))).cell? ⟨G, i * 8 + 3, none⟩ = some (.int .i64 ((j : Int) + 1 + 1 + 1)) :=
        World.cell?_setCell_same _ _ _ (by rw [setCell_otherN (by omega), setCell_otherN (by omega), setCell_otherN (by omega)]; exact c3)
      have n4 : ((((wr.setCell ⟨G, i * 8, none⟩ (.int .i64 (j : Int))).setCell ⟨G, i * 8 + 1, none⟩ (.int .i64 ((j : Int) + 1))).setCell ⟨G, i * 8 + 2, none⟩ (.int .i64 ((j : Int) + 1 + 1))).setCell ⟨G, i * 8 + 3, none⟩ (.int .i64 ((j : Int) + 1 + 1 + 1))).cell? ⟨G, i * 8 + 4, none⟩ = some u := by
        rw [setCell_otherN (by omega), setCell_otherN (by omega), setCell_otherN (by omega), setCell_otherN (by omega)]; exact c4
      have n5 : ((((wr.setCell ⟨G, i * 8, none⟩ (.int .i64 (j : Int))).setCell ⟨G, i * 8 + 1, none⟩ (.int .i64 ((j : Int) + 1))).setCell ⟨G, i * 8 + 2, none⟩ (.int .i64 ((j : Int) + 1 + 1))).setCell ⟨G, i * 8 + 3, none⟩ (.int .i64 ((j : Int) + 1 + 1 + 1))).cell? ⟨G, i * 8 + 5, none⟩ = some u' := by
        rw [setCell_otherN (by omega), setCell_otherN (by omega), setCell_otherN (by omega), setCell_otherN (by omega)]; exact c5
      have n6 : ((((wr.setCell ⟨G, i * 8, none⟩ (.int .i64 (j : Int))).setCell ⟨G, i * 8 + 1, none⟩ (.int .i64 ((j : Int) + 1))).setCell ⟨G, i * 8 + 2, none⟩ (.int .i64 ((j : Int) + 1 + 1))).setCell ⟨G, i * 8 + 3, none⟩ (.int .i64 ((j : Int) + 1 + 1 + 1))).cell? ⟨G, i * 8 + 6, none⟩ = some (.int .i64 p.L) := by
        rw [setCell_otherN (by omega), setCell_otherN (by omega), setCell_otherN (by omega), setCell_otherN (by omega)]; exact c6
      have n7 : ((((wr.setCell ⟨G, i * 8, none⟩ (.int .i64 (j : Int))).setCell ⟨G, i * 8 + 1, none⟩ (.int .i64 ((j : Int) + 1))).setCell ⟨G, i * 8 + 2, none⟩ (.int .i64 ((j : Int) + 1 + 1))).setCell ⟨G, i * 8 + 3, none⟩ (.int .i64 ((j : Int) + 1 + 1 + 1))).cell? ⟨G, i * 8 + 7, none⟩ = some (.int .i64 p.R) := by
        rw [setCell_otherN (by omega), setCell_otherN (by omega), setCell_otherN (by omega), setCell_otherN (by omega)]; exact c7
      have hfa : ∀ o, ((((wr.setCell ⟨G, i * 8, none⟩ (.int .i64 (j : Int))).setCell ⟨G, i * 8 + 1, none⟩ (.int .i64 ((j : Int) + 1))).setCell ⟨G, i * 8 + 2, none⟩ (.int .i64 ((j : Int) + 1 + 1))).setCell ⟨G, i * 8 + 3, none⟩ (.int .i64 ((j : Int) + 1 + 1 + 1))).frozen? ⟨G, o, none⟩ = false := fun o => by
        rw [frozen_setCellN, frozen_setCellN, frozen_setCellN, frozen_setCellN]; exact hf o
      have hza : G < ((((wr.setCell ⟨G, i * 8, none⟩ (.int .i64 (j : Int))).setCell ⟨G, i * 8 + 1, none⟩ (.int .i64 ((j : Int) + 1))).setCell ⟨G, i * 8 + 2, none⟩ (.int .i64 ((j : Int) + 1 + 1))).setCell ⟨G, i * 8 + 3, none⟩ (.int .i64 ((j : Int) + 1 + 1 + 1))).heap.size := by simpa using q1
      have hoth : ∀ jj q, jj ≠ i → FnM wr lab G jj q → FnM ((((wr.setCell ⟨G, i * 8, none⟩ (.int .i64 (j : Int))).setCell ⟨G, i * 8 + 1, none⟩ (.int .i64 ((j : Int) + 1))).setCell ⟨G, i * 8 + 2, none⟩ (.int .i64 ((j : Int) + 1 + 1))).setCell ⟨G, i * 8 + 3, none⟩ (.int .i64 ((j : Int) + 1 + 1 + 1))) lab G jj q := fun jj q hne hq =>
        (((hq.far hl3 (by omega) _).far hl3 (by omega) _).far hl3 (by omega) _).far hl3 (by omega) _
      have HOth := hide hoth; have H4a := hide h4a; have H5a := hide h5a; have HBa := hide hBa
      have s4 := h4.slice
      have s5 := isOpss_slice h5.is
      clear hoth h4a h5a hBa h4 h5 c4 c5
      obtain ⟨ua, uc, rfl⟩ := s4
      obtain ⟨ua', uc', rfl⟩ := s5
      go_upto_region 12 with fail
      clear c0 c1 c2 c3 c6 c7 hf
      generalize ((((wr.setCell ⟨G, i * 8, none⟩ (.int .i64 (j : Int))).setCell ⟨G, i * 8 + 1, none⟩ (.int .i64 ((j : Int) + 1))).setCell ⟨G, i * 8 + 2, none⟩ (.int .i64 ((j : Int) + 1 + 1))).setCell ⟨G, i * 8 + 3, none⟩ (.int .i64 ((j : Int) + 1 + 1 + 1))) = wa at *
      have HM4 : Hid (∀ kz : Int, kz = ((j + 4 : Nat) : Int) → Calls Tryz.prog 73 #[.slice ua p.Ex.length uc, .int .i64 kz] wa fun e w' => e = .returned (.int .i64 ((j + 4 + 2 * p.Ex.length : Nat) : Int)) ∧ OpsM w' (.slice ua p.Ex.length uc) (mOps (j + 4) p.Ex.length) (fun b => lab b = (0, i, 0)) ∧ ButM (fun b => lab b = (0, i, 0)) wa w') := fun kz hkz => by
        subst hkz
        exact markOpS_calls p.Ex _ _ (j + 4) wa (unhide H4a) x1 (by omega)
      go_wp2_with fail
      refine (unhide HM4 _ (by push_cast; omega)).mono ?_; rintro e wb ⟨rfl, ho4, hBb⟩
      have dl : ∀ b x y, lab b = x → lab b = y → x = y := fun b x y h1 h2 => h1.symm.trans h2
      have hG0 : ¬ lab G = (0, i, 0) := fun h => by have := dl G _ _ hl3 h; simp at this
      have m0 := (hBb.cell G (i * 8) hza hG0).trans n0
      have m1 := (hBb.cell G (i * 8 + 1) hza hG0).trans n1
      have m2 := (hBb.cell G (i * 8 + 2) hza hG0).trans n2
      have m3 := (hBb.cell G (i * 8 + 3) hza hG0).trans n3
      have m4 := (hBb.cell G (i * 8 + 4) hza hG0).trans n4
      have m5 := (hBb.cell G (i * 8 + 5) hza hG0).trans n5
      have m6 := (hBb.cell G (i * 8 + 6) hza hG0).trans n6
      have m7 := (hBb.cell G (i * 8 + 7) hza hG0).trans n7
      have hfb : ∀ o, wb.frozen? ⟨G, o, none⟩ = false := fun o => (hBb.frz G o hza).trans (hfa o)
      have hzb : G < wb.heap.size := Nat.lt_of_lt_of_le hza hBb.size
      have H5b := hide ((unhide H5a).but hBb (fun b h h' => by have := dl b _ _ h h'; simp at this) (fun jj b h h' => by have := dl b _ _ h h'; simp at this))
      have HO4 := hide ho4; have HBb := hide hBb
      clear ho4 hBb HM4 H4a H5a n0 n1 n2 n3 n4 n5 n6 n7 hfa
      have HM5 : Hid (∀ kz : Int, kz = ((j + 4 + 2 * p.Ex.length : Nat) : Int) → Calls Tryz.prog 74 #[.slice ua' p.Exs.length uc', .int .i64 kz] wb fun e w' => e = .returned (.int .i64 ((j + 4 + 2 * p.Ex.length + 2 * bulkO p.Exs : Nat) : Int)) ∧ OpssM w' (.slice ua' p.Exs.length uc') (mOpss (j + 4 + 2 * p.Ex.length) p.Exs) (fun b => lab b = (1, i, 0)) (fun jj b => lab b = (2, i, jj)) ∧ ButM (fun b => ∃ jj, lab b = (2, i, jj)) wb w') := fun kz hkz => by
        subst hkz
        exact markOpSS_calls p.Exs _ _ _ (j + 4 + 2 * p.Ex.length) wb (unhide H5b) (fun jj b h h' => by have := dl b _ _ h h'; simp at this) (fun j1 j2 b hne h h' => by have := dl b _ _ h h'; simp at this; exact hne this) x2 x3 (by omega)
      obtain ⟨j5, hj5⟩ : ∃ j5, j5 = j + 4 + 2 * p.Ex.length := ⟨_, rfl⟩
      rw [← hj5] at HM5 ⊢
      have HJ5 := hide hj5
      have j5b : j5 ≤ 536870912 := by omega
      clear hj5
      go_wp2_with fail
      refine (unhide HM5 _ rfl).mono ?_; rintro e wc ⟨rfl, ho5, hBc⟩
      have hG2 : ¬ ∃ jj, lab G = (2, i, jj) := fun ⟨jj, h⟩ => by have := dl G _ _ hl3 h; simp at this
      have o0 := (hBc.cell G (i * 8) hzb hG2).trans m0
      have o1 := (hBc.cell G (i * 8 + 1) hzb hG2).trans m1
      have o2 := (hBc.cell G (i * 8 + 2) hzb hG2).trans m2
      have o3 := (hBc.cell G (i * 8 + 3) hzb hG2).trans m3
      have o4 := (hBc.cell G (i * 8 + 4) hzb hG2).trans m4
      have o5 := (hBc.cell G (i * 8 + 5) hzb hG2).trans m5
      have o6 := (hBc.cell G (i * 8 + 6) hzb hG2).trans m6
      have o7 := (hBc.cell G (i * 8 + 7) hzb hG2).trans m7
      have hfc : ∀ o, wc.frozen? ⟨G, o, none⟩ = false := fun o => (hBc.frz G o hzb).trans (hfb o)
      have hzc : G < wc.heap.size := Nat.lt_of_lt_of_le hzb hBc.size
      obtain ⟨j6, hj6⟩ : ∃ j6, j6 = j5 + 2 * bulkO p.Exs := ⟨_, rfl⟩
      rw [← hj6]
      have hj6' : j6 = j + 4 + 2 * p.Ex.length + 2 * bulkO p.Exs := by have := unhide HJ5; omega
      have j6b : j6 ≤ 536870912 := by omega
      have hBd : ButM (fun b => b = G) wc ((wc.setCell ⟨G, i * 8 + 6, none⟩ (.int .i64 (j6 : Int))).setCell ⟨G, i * 8 + 7, none⟩ (.int .i64 ((j6 : Int) + 1))) := ButM.set (S := fun b => b = G) (ButM.set (S := fun b => b = G) (ButM.refl _ _) rfl _) rfl _
      have HNew : Hid (FnM ((wc.setCell ⟨G, i * 8 + 6, none⟩ (.int .i64 (j6 : Int))).setCell ⟨G, i * 8 + 7, none⟩ (.int .i64 ((j6 : Int) + 1))) lab G i (mFn j p)) := by
        refine ⟨?_, ?_, ?_, ?_, ?_, ?_, ⟨.slice ua p.Ex.length uc, ?_, ?_⟩, .slice ua' p.Exs.length uc', ?_, ?_⟩
        · rw [setCell_otherN (by omega), setCell_otherN (by omega)]; exact o0
        · rw [setCell_otherN (by omega), setCell_otherN (by omega)]; exact o1
        · rw [setCell_otherN (by omega), setCell_otherN (by omega), o2]; simp [mFn]; omega
        · rw [setCell_otherN (by omega), setCell_otherN (by omega), o3]; simp [mFn]; omega
        · rw [setCell_otherN (by omega), World.cell?_setCell_same _ _ _ o6]; simp only [mFn, hj6']
        · rw [World.cell?_setCell_same _ _ _ (show _ = some _ by rw [setCell_otherN (by omega)]; exact o7)]; simp only [mFn, hj6']
        · rw [setCell_otherN (by omega), setCell_otherN (by omega)]; exact o4
        · exact ((unhide HO4).but hBc (fun b h ⟨jj, h'⟩ => by have := dl b _ _ h h'; simp at this)).but hBd (fun b hb => dG b _ hb (by simp))
        · rw [setCell_otherN (by omega), setCell_otherN (by omega)]; exact o5
        · have := ho5.but hBd (fun b hb => dG b _ hb (by simp)) (fun jj b hb => dG b _ hb (by simp))
          rw [unhide HJ5] at this
          exact this
      have HM1 : Hid (∀ jj q, fs[jj]? = some q → FnM ((wc.setCell ⟨G, i * 8 + 6, none⟩ (.int .i64 (j6 : Int))).setCell ⟨G, i * 8 + 7, none⟩ (.int .i64 ((j6 : Int) + 1))) lab G jj (if jj < i + 1 then mFn (k + kNs (fs.take jj)) q else q)) := fun jj q hq => by
        by_cases e : jj = i
        · subst e
          rw [List.getElem?_eq_getElem hlt] at hq
          obtain rfl := Option.some.inj hq
          rw [if_pos (by omega), ← unhide HJ, unhide HP]
          exact unhide HNew
        · have h1 := unhide HOth jj _ e (unhide HM jj q hq)
          have h2 := h1.but hza (unhide HBb) hG0 (fun b h h' => by have := dl b _ _ h h'; simp at this; exact e this) (fun b h h' => by have := dl b _ _ h h'; simp at this) (fun j1 b h h' => by have := dl b _ _ h h'; simp at this)
          have h3 := h2.but hzb hBc hG2 (fun b h ⟨j1, h'⟩ => by have := dl b _ _ h h'; simp at this) (fun b h ⟨j1, h'⟩ => by have := dl b _ _ h h'; simp at this) (fun j2 b h ⟨j1, h'⟩ => by have := dl b _ _ h h'; simp at this; exact e this.1)
          have h4 := (h3.far hl3 (O := i * 8 + 6) (by omega) (.int .i64 (j6 : Int))).far hl3 (O := i * 8 + 7) (by omega) (.int .i64 ((j6 : Int) + 1))
          by_cases hj : jj < i
          · rw [if_pos hj] at h4; rw [if_pos (by omega)]; exact h4
          · rw [if_neg hj] at h4; rw [if_neg (by omega)]; exact h4
      have HB5 : Hid (ButM (fun b => (lab b).1 ≤ 3) w ((wc.setCell ⟨G, i * 8 + 6, none⟩ (.int .i64 (j6 : Int))).setCell ⟨G, i * 8 + 7, none⟩ (.int .i64 ((j6 : Int) + 1)))) :=
        ((((unhide HB).trans ((unhide HBa).mono (fun b hb => by rw [hb, hl3]; omega))).trans ((unhide HBb).mono (fun b hb => by rw [hb]; omega))).trans (hBc.mono (fun b ⟨jj, hb⟩ => by rw [hb]; omega))).trans (hBd.mono (fun b hb => by rw [hb, hl3]; omega))
      have HK6 : Hid (k + kNs (fs.take (i + 1)) = j6 + 1 + 1) := by show _ = _; have := unhide HK1; omega
      clear ho5 hBc hBd HNew HM HB HBa HBb HOth HO4 H5b HM5 o0 o1 o2 o3 o4 o5 m0 m1 m2 m3 m4 m5 m6 m7 hfb hj6 hj6' HJ5 HK1 HP HJ dl dG hG0 hG2
      go_wp2
      go_roundw
      case rel => exact ⟨i + 1, by omega, by go_num, by rw [unhide HK6]; go_num, unhide HM1, unhide HB5⟩
      case measure => simp [intOf]; omega
    · obtain rfl : i = fs.length := by omega
      have HR : Hid (FlM wr lab G (mFns k fs)) := ⟨Nat.lt_of_lt_of_le hG hB.size, hl3, fun o => (hB.frz G o hG).trans (unhide HFz o), fun o ho => by
        rw [mFns_length] at ho
        have hd : o / 8 < fs.length := by omega
        have hn := hM (o / 8) fs[o / 8] (List.getElem?_eq_getElem hd)
        have : o % 8 < 8 := Nat.mod_lt _ (by omega)
        have e : o = o / 8 * 8 + o % 8 := by omega
        rw [e]
        generalize o % 8 = r at *
        obtain ⟨c0, c1, c2, c3, c6, c7, ⟨u, c4, _⟩, u', c5, _⟩ := hn
        have hc : r = 0 ∨ r = 1 ∨ r = 2 ∨ r = 3 ∨ r = 4 ∨ r = 5 ∨ r = 6 ∨ r = 7 := by omega
        rcases hc with rfl | rfl | rfl | rfl | rfl | rfl | rfl | rfl
        · exact ⟨_, by rw [Nat.add_zero]; exact c0⟩
        · exact ⟨_, c1⟩
        · exact ⟨_, c2⟩
        · exact ⟨_, c3⟩
        · exact ⟨_, c4⟩
        · exact ⟨_, c5⟩
        · exact ⟨_, c6⟩
        · exact ⟨_, c7⟩, fun j q hq => by
        have hj : j < fs.length := by have := (List.getElem?_eq_some_iff.1 hq).1; rwa [mFns_length] at this
        rw [mFns_at k fs j hj] at hq
        obtain rfl := Option.some.inj hq
        have hn := hM j fs[j] (List.getElem?_eq_getElem hj)
        rw [if_pos hj] at hn
        exact hn⟩
      rw [List.take_length]
      clear hM HNd HB2 HFz HAll
      go_wp2
      go_ret
      exact ⟨rfl, unhide HR, hB⟩
end Go.Proofs.YtnchcndcinpalaaGreatDoor
/-
  WORLDS THAT AGREE FROM A BLOCK ON: what lies there can be read in both.
-/
namespace Go.Proofs.YtnchcndcinpalaaGreatDoor
open Go Go.RowKit

structure Keeps (s : Nat) (w w' : World) : Prop where
  size : w.heap.size ≤ w'.heap.size
  cell : ∀ b o, s ≤ b → b < w.heap.size → w'.cell? ⟨b, o, none⟩ = w.cell? ⟨b, o, none⟩
theorem Keeps.refl (s : Nat) (w : World) : Keeps s w w := ⟨Nat.le_refl _, fun _ _ _ _ => rfl⟩
theorem Keeps.of {s : Nat} {w w1 w2 : World} (h : Keeps s w w1) (hb : Below w1.heap.size w1 w2) : Keeps s w w2 :=
  ⟨Nat.le_trans h.size hb.size, fun b o h1 h2 => (hb.cell (p := ⟨b, o, none⟩) (Nat.lt_of_lt_of_le h2 h.size)).trans (h.cell b o h1 h2)⟩
theorem Keeps.set {s : Nat} {w w1 : World} (h : Keeps s w w1) {X O : Nat} (hX : X < s ∨ w.heap.size ≤ X) (v : Value) : Keeps s w (w1.setCell ⟨X, O, none⟩ v) :=
  ⟨by simpa using h.size, fun b o h1 h2 => by rw [setCell_farN (by omega)]; exact h.cell b o h1 h2⟩
theorem OpsM.keeps {s : Nat} {w w' : World} {u : Value} {xs : List O2} {S : Nat → Prop} (h : OpsM w u xs S) (hS : ∀ b, S b → s ≤ b) (hk : Keeps s w w') : IsOps w' u xs := by
  rcases h with h | ⟨b, c, h1, h2, h3, h4⟩
  · exact Or.inl h
  · refine Or.inr ⟨b, 0, c, h1, h2, Nat.lt_of_lt_of_le h4.size hk.size, fun i x hx => ?_⟩
    have := h4.held i x hx
    exact ⟨(hk.cell b _ (hS b h3) h4.size).trans this.1, (hk.cell b _ (hS b h3) h4.size).trans this.2⟩
theorem OpssM.keeps {s : Nat} {w w' : World} {u : Value} {oss : List (List O2)} {So : Nat → Prop} {Si : Nat → Nat → Prop} (h : OpssM w u oss So Si) (hS : ∀ b, So b → s ≤ b) (hT : ∀ i b, Si i b → s ≤ b) (hk : Keeps s w w') : IsOpss w' u oss := by
  rcases h with h | ⟨o, c, h1, h2, h3, h4⟩
  · exact Or.inl h
  · refine Or.inr ⟨o, 0, c, h1, Nat.lt_of_lt_of_le h3 hk.size, fun i xs hx => ?_⟩
    obtain ⟨u', hu, hr⟩ := h4 i xs hx
    exact ⟨u', by rw [Nat.zero_add]; exact (hk.cell o i (hS o h2) h3).trans hu, hr.keeps (hT i) hk⟩
theorem FlM.keeps {s : Nat} {w w' : World} {lab : Lb} {G : Nat} {fs : List Fn} (h : FlM w lab G fs) (hl : ∀ b, (lab b).1 ≤ 3 → s ≤ b) (hk : Keeps s w w') (cap : Nat) : IsFns w' (.slice (some ⟨G, 0, none⟩) fs.length cap) fs := by
  have hG : s ≤ G := hl G (by rw [h.lab3]; omega)
  refine Or.inr ⟨G, 0, cap, rfl, Nat.lt_of_lt_of_le h.size hk.size, fun i p hp => ?_⟩
  obtain ⟨c0, c1, c2, c3, c6, c7, ⟨u, c4, h4⟩, u', c5, h5⟩ := h.node i p hp
  rw [Nat.zero_add]
  have k := fun o => hk.cell G o hG h.size
  exact ⟨(k _).trans c0, (k _).trans c1, (k _).trans c2, (k _).trans c3, (k _).trans c6, (k _).trans c7, ⟨u, (k _).trans c4, h4.keeps (fun b e => hl b (by rw [e]; omega)) hk⟩, u', (k _).trans c5, h5.keeps (fun b e => hl b (by rw [e]; omega)) (fun j b e => hl b (by rw [e]; omega)) hk⟩
theorem GrowF.keeps {s : Nat} {w w' : World} {B C G c n : Nat} {cs : List Value} {fs : List Fn} (h : GrowF w B C G c n cs fs) (hB : s ≤ B) (hC : s ≤ C) (hk : Keeps s w w') : IsFns w' (.slice (some ⟨G, 0, none⟩) n c) fs := by
  have hG := h.lt
  have hcell : ∀ (j : Nat) v, cs[j]? = some v → w'.cell? ⟨G, j, none⟩ = some v := by
    rcases h.own.2 with ⟨h1, _⟩ | ⟨g', cap', cur, h1, h2, h3, h4, h5, h6, h7⟩
    · simp at h1
    · simp only [Value.slice.injEq, Option.some.injEq, Addr.mk.injEq, and_true, true_and] at h1
      obtain ⟨rfl, rfl⟩ := h1
      intro j v hv
      have hj := (List.getElem?_eq_some_iff.1 hv).1
      rw [h.len] at hj
      rw [← h7, List.getElem?_take, if_pos (by omega)] at hv
      rw [hk.cell G j (by omega) hG.1]
      simp only [World.cell?, h3]
      simpa using hv
  have hc := h.cnt
  refine Or.inr ⟨G, 0, c, by rw [hc], Nat.lt_of_lt_of_le hG.1 hk.size, fun i p hp => ?_⟩
  obtain ⟨u4, u5, a, b, d⟩ := h.node i p hp
  rw [Nat.zero_add]
  exact ⟨hcell _ _ (a 0 _ rfl), hcell _ _ (a 1 _ rfl), hcell _ _ (a 2 _ rfl), hcell _ _ (a 3 _ rfl), hcell _ _ (a 6 _ rfl), hcell _ _ (a 7 _ rfl), ⟨u4, hcell _ _ (a 4 _ rfl), b.keeps (fun b e => by omega) hk⟩, u5, hcell _ _ (a 5 _ rfl), d.keeps (fun b e => by omega) (fun _ b e => by omega) hk⟩
end Go.Proofs.YtnchcndcinpalaaGreatDoor
