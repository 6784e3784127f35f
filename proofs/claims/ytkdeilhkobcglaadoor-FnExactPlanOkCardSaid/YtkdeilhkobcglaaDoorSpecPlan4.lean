import Derived.Test.YtkdeilhkobcglaaDoorGSpec1
import Derived.Test.YtkdeilhkobcglaaDoorGEx
/-
  THE SPECIFICATION's WIDTH OF A NODE: the frame that every kind shares, and the kinds without and with one kid.
-/
namespace Go.Proofs.YtkdeilhkobcglaaDoor
open Go Go.RowKit

theorem wid_not {ts : List Tb} {ps : List Pn} {i : Nat} (hi : i < ps.length) (env : Int) (h : ¬ UsedP ts ps[i]) : wid ts ps i env = -1 := by
  rw [wid, List.getElem?_eq_getElem hi]
  simp only [h, not_false_eq_true, if_true]
theorem wid_leaf {ts : List Tb} {ps : List Pn} {i : Nat} (hi : i < ps.length) (env : Int) (h : UsedP ts ps[i]) (ha : arity (ps[i]).K = 0) : wid ts ps i env = nodeW ts ps[i] env 0 0 := by
  rw [wid, List.getElem?_eq_getElem hi]
  simp [h, ha]
theorem wid_one {ts : List Tb} {ps : List Pn} {i : Nat} (hi : i < ps.length) (env : Int) (h : UsedP ts ps[i]) (ha : arity (ps[i]).K = 1) {q : Nat} (hq : (ps[i]).L = (q : Int)) (hqi : q < i) :
    wid ts ps i env = if wid ts ps q env < 0 then -1 else nodeW ts ps[i] env (wid ts ps q env) 0 := by
  rw [wid, List.getElem?_eq_getElem hi]
  simp [h, ha, hq, hqi]
theorem wid_two {ts : List Tb} {ps : List Pn} {i : Nat} (hi : i < ps.length) (env : Int) (h : UsedP ts ps[i]) (ha : arity (ps[i]).K = 2) {q j : Nat} (hq : (ps[i]).L = (q : Int)) (hqi : q < i) (hj : (ps[i]).R = (j : Int)) (hji : j < i) :
    wid ts ps i env = if wid ts ps q env < 0 then -1 else if wid ts ps j (insideW (ps[i]).K env (wid ts ps q env)) < 0 then -1 else nodeW ts ps[i] env (wid ts ps q env) (wid ts ps j (insideW (ps[i]).K env (wid ts ps q env))) := by
  rw [wid, List.getElem?_eq_getElem hi]
  simp [h, ha, hq, hqi, hj, hji]

/-- the function's own boxes: the plan, the tables, the node -/
structure WF (s g np cap gt nt capt : Nat) (K T M L R : Int) (u3 u4 : Value) (W : World) : Prop where
  p : W.cell? ⟨s, 0, none⟩ = some (.slice (some ⟨g, 0, none⟩) np cap)
  d : W.cell? ⟨s + 1, 0, none⟩ = some (.slice (some ⟨gt, 0, none⟩) nt capt)
  n0 : W.cell? ⟨s + 1 + 1, 0, none⟩ = some (.int .i64 K)
  n1 : W.cell? ⟨s + 1 + 1, 1, none⟩ = some (.int .i64 T)
  n2 : W.cell? ⟨s + 1 + 1, 2, none⟩ = some (.int .i64 M)
  n3 : W.cell? ⟨s + 1 + 1, 3, none⟩ = some u3
  n4 : W.cell? ⟨s + 1 + 1, 4, none⟩ = some u4
  n5 : W.cell? ⟨s + 1 + 1, 5, none⟩ = some (.int .i64 L)
  n6 : W.cell? ⟨s + 1 + 1, 6, none⟩ = some (.int .i64 R)
  sz : s + 1 + 1 < W.heap.size
theorem WF.of {s g np cap gt nt capt : Nat} {K T M L R : Int} {u3 u4 : Value} {W W1 : World} (h : WF s g np cap gt nt capt K T M L R u3 u4 W) (hb : Below W.heap.size W W1) : WF s g np cap gt nt capt K T M L R u3 u4 W1 := by
  have hs := h.sz
  have hc : ∀ k, W1.cell? ⟨s + 1 + 1, k, none⟩ = W.cell? ⟨s + 1 + 1, k, none⟩ := fun k => hb.cell (p := ⟨s + 1 + 1, k, none⟩) hs
  exact ⟨(hb.cell (p := ⟨s, 0, none⟩) (show s < _ by omega)).trans h.p, (hb.cell (p := ⟨s + 1, 0, none⟩) (show s + 1 < _ by omega)).trans h.d, (hc 0).trans h.n0, (hc 1).trans h.n1, (hc 2).trans h.n2, (hc 3).trans h.n3, (hc 4).trans h.n4, (hc 5).trans h.n5, (hc 6).trans h.n6, Nat.lt_of_lt_of_le hs hb.size⟩

/-- what the walk of a node stands on -/
structure WHyp (ts : List Tb) (ps : List Pn) (g cap gt capt i : Nat) (env : Int) (w : World) : Prop where
  lp : ps.length ≤ 1048576
  lt : ts.length ≤ 1048576
  fit : ∀ p ∈ ps, p.Ex.length ≤ 1048576 ∧ p.Exs.length ≤ 1048576 ∧ ∀ xs ∈ p.Exs, xs.length ≤ 1048576
  cols : ∀ t ∈ ts, 0 ≤ t.Cols ∧ t.Cols ≤ 16
  e0 : 0 ≤ env
  e1 : env ≤ 200
  hg : g < w.heap.size
  hn : PnsAt w g 0 ps
  hgt : gt < w.heap.size
  ht : TablesAt w gt 0 ts
  ih : ∀ (q : Nat), q < i → frm (nds ps) q ≠ -1 → ∀ (ev : Int), 0 ≤ ev → ev ≤ 200 → ∀ W, Below w.heap.size w W →
    Calls Tryd.prog 25 #[.agg #[.slice (some ⟨g, 0, none⟩) ps.length cap], .agg #[.slice (some ⟨gt, 0, none⟩) ts.length capt], .int .i64 (q : Int), .int .i64 ev] W fun e w' => e = .returned (.int .i64 (wid ts ps q ev)) ∧ Below W.heap.size W w'

set_option maxHeartbeats 4000000 in
theorem width_not (ts : List Tb) (ps : List Pn) (g cap gt capt i : Nat) (env : Int) (w : World) (H : WHyp ts ps g cap gt capt i env w) (hi : i < ps.length) (hu : ¬ UsedP ts ps[i]) :
    Calls Tryd.prog 25 #[.agg #[.slice (some ⟨g, 0, none⟩) ps.length cap], .agg #[.slice (some ⟨gt, 0, none⟩) ts.length capt], .int .i64 (i : Int), .int .i64 env] w fun e w' => e = .returned (.int .i64 (wid ts ps i env)) ∧ Below w.heap.size w w' := by
  obtain ⟨c0, c1, c2, c5, c6, ⟨b3, c3, _, _, _⟩, b4, c4, _, _, _⟩ := H.hn.at i hi
  have HE := hide (wid_not hi env hu)
  have hf := H.fit _ (List.getElem_mem hi)
  have HU := hide (fun W => l3Used_calls ts.length (ps[i]).K (ps[i]).T (ps[i]).M (ps[i]).L (ps[i]).R (ps[i]).Ex.length (ps[i]).Exs.length (some ⟨b3, 0, none⟩) (some ⟨b4, 0, none⟩) (ps[i]).Ex.length (ps[i]).Exs.length gt capt W hf.1 hf.2.1)
  have HD : Hid (dB (UsedP ts ps[i]) = false) := dB_false hu
  have hg := H.hg
  have l1 := H.lp
  clear H hu hf
  simp only [Nat.zero_add] at c0 c1 c2 c3 c4 c5 c6
  unfold UsedP at HD
  cases e : ps[i] with | mk K T M Ex Exs L R =>
  rw [e] at c0 c1 c2 c3 c4 c5 c6 HU HD
  simp only at c0 c1 c2 c3 c4 c5 c6 HU HD
  clear e
  generalize dB (usedP ts.length K T M Ex.length Exs.length) = B at *
  generalize Ex.length = le at *
  generalize Exs.length = ls at *
  have j0 : (i : Int) < (ps.length : Int) := by omega
  obtain rfl := HD.out
  go_enter Tryd.func25, Tryd.ntmps25
  go_wp2_with fail
  refine (unhide HU _).mono ?_; rintro e w1 ⟨rfl, hb⟩
  have n1 := bT (bA (bA (bA (Below.refl w.heap.size w) _) _) _) hb
  go_wp2
  go_ret
  exact ⟨congrArg (fun z => Ending.returned (.int .i64 z)) (unhide HE).symm, n1⟩
end Go.Proofs.YtkdeilhkobcglaaDoor
