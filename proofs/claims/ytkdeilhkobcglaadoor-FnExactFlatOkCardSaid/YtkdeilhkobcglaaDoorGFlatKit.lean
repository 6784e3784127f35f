import Derived.Test.YtkdeilhkobcglaaDoorGPlan
/-
  FLAT PLANS IN MEMORY, of no program. A node has eight cells: K, T, M, W, the slice Ex, the slice of slices Exs, L, R.
-/
namespace Go.Proofs.YtkdeilhkobcglaaDoor
open Go Go.RowKit

structure Fn where
  K : Int
  T : Int
  M : Int
  W : Int
  Ex : List O2
  Exs : List (List O2)
  L : Int
  R : Int

/-- an argument: a slice of nodes -/
def IsFns (w : World) (v : Value) (ps : List Fn) : Prop :=
  (ps = [] ∧ ∃ a cap, v = .slice a 0 cap) ∨ ∃ g off cap, v = .slice (some ⟨g, off, none⟩) ps.length cap ∧ g < w.heap.size ∧
    ∀ i p, ps[i]? = some p → w.cell? ⟨g, off + i * 8, none⟩ = some (.int .i64 p.K) ∧ w.cell? ⟨g, off + i * 8 + 1, none⟩ = some (.int .i64 p.T) ∧ w.cell? ⟨g, off + i * 8 + 2, none⟩ = some (.int .i64 p.M) ∧ w.cell? ⟨g, off + i * 8 + 3, none⟩ = some (.int .i64 p.W) ∧ w.cell? ⟨g, off + i * 8 + 6, none⟩ = some (.int .i64 p.L) ∧ w.cell? ⟨g, off + i * 8 + 7, none⟩ = some (.int .i64 p.R) ∧
      (∃ u, w.cell? ⟨g, off + i * 8 + 4, none⟩ = some u ∧ IsOps w u p.Ex) ∧ ∃ u, w.cell? ⟨g, off + i * 8 + 5, none⟩ = some u ∧ IsOpss w u p.Exs
theorem IsFns.of {w w1 : World} {v : Value} {ps : List Fn} (h : IsFns w v ps) (hb : Below w.heap.size w w1) : IsFns w1 v ps := by
  rcases h with h | ⟨g, off, cap, h1, h2, h3⟩
  · exact Or.inl h
  · refine Or.inr ⟨g, off, cap, h1, Nat.lt_of_lt_of_le h2 hb.size, fun i p hp => ?_⟩
    obtain ⟨c0, c1, c2, c3, c6, c7, ⟨u, c4, hu⟩, u', c5, hu'⟩ := h3 i p hp
    exact ⟨(hb.cell (p := ⟨g, off + i * 8, none⟩) h2).trans c0, (hb.cell (p := ⟨g, off + i * 8 + 1, none⟩) h2).trans c1, (hb.cell (p := ⟨g, off + i * 8 + 2, none⟩) h2).trans c2, (hb.cell (p := ⟨g, off + i * 8 + 3, none⟩) h2).trans c3, (hb.cell (p := ⟨g, off + i * 8 + 6, none⟩) h2).trans c6, (hb.cell (p := ⟨g, off + i * 8 + 7, none⟩) h2).trans c7,
      ⟨u, (hb.cell (p := ⟨g, off + i * 8 + 4, none⟩) h2).trans c4, hu.of hb⟩, u', (hb.cell (p := ⟨g, off + i * 8 + 5, none⟩) h2).trans c5, hu'.of hb⟩
theorem isFns_slice {w : World} {v : Value} {ps : List Fn} (hv : IsFns w v ps) : ∃ a cap, v = .slice a ps.length cap := by
  rcases hv with ⟨rfl, a, cap, rfl⟩ | ⟨g, off, cap, rfl, _⟩
  · exact ⟨a, cap, rfl⟩
  · exact ⟨_, cap, rfl⟩

/-- a node of the call's own making -/
structure FnAt (w : World) (g o : Nat) (p : Fn) : Prop where
  c0 : w.cell? ⟨g, o, none⟩ = some (.int .i64 p.K)
  c1 : w.cell? ⟨g, o + 1, none⟩ = some (.int .i64 p.T)
  c2 : w.cell? ⟨g, o + 2, none⟩ = some (.int .i64 p.M)
  c3 : w.cell? ⟨g, o + 3, none⟩ = some (.int .i64 p.W)
  c6 : w.cell? ⟨g, o + 6, none⟩ = some (.int .i64 p.L)
  c7 : w.cell? ⟨g, o + 7, none⟩ = some (.int .i64 p.R)
  ex : ∃ b, w.cell? ⟨g, o + 4, none⟩ = some (.slice (some ⟨b, 0, none⟩) p.Ex.length p.Ex.length) ∧ g < b ∧ b < w.heap.size ∧ OpsAt w b 0 p.Ex
  exs : ∃ b, w.cell? ⟨g, o + 5, none⟩ = some (.slice (some ⟨b, 0, none⟩) p.Exs.length p.Exs.length) ∧ g < b ∧ b < w.heap.size ∧ OpssAt w b p.Exs
theorem FnAt.of {w w1 : World} {g o : Nat} {p : Fn} (h : FnAt w g o p) (hg : g < w.heap.size) (hb : Below w.heap.size w w1) : FnAt w1 g o p := by
  obtain ⟨c0, c1, c2, c3, c6, c7, ⟨b, c4, e1, e2, e3⟩, b', c5, f1, f2, f3⟩ := h
  exact ⟨(hb.cell (p := ⟨g, o, none⟩) hg).trans c0, (hb.cell (p := ⟨g, o + 1, none⟩) hg).trans c1, (hb.cell (p := ⟨g, o + 2, none⟩) hg).trans c2, (hb.cell (p := ⟨g, o + 3, none⟩) hg).trans c3, (hb.cell (p := ⟨g, o + 6, none⟩) hg).trans c6, (hb.cell (p := ⟨g, o + 7, none⟩) hg).trans c7,
    ⟨b, (hb.cell (p := ⟨g, o + 4, none⟩) hg).trans c4, e1, Nat.lt_of_lt_of_le e2 hb.size, e3.of e2 hb⟩, b', (hb.cell (p := ⟨g, o + 5, none⟩) hg).trans c5, f1, Nat.lt_of_lt_of_le f2 hb.size, f3.of f2 hb⟩
theorem FnAt.far {w : World} {g o : Nat} {p : Fn} (h : FnAt w g o p) {X O : Nat} (hX : X < g ∨ (X = g ∧ (O < o ∨ o + 7 < O))) (v : Value) : FnAt (w.setCell ⟨X, O, none⟩ v) g o p := by
  have hk : ∀ k, k ≤ 7 → (w.setCell ⟨X, O, none⟩ v).cell? ⟨g, o + k, none⟩ = w.cell? ⟨g, o + k, none⟩ := fun k hk => by
    rcases hX with h | ⟨rfl, h⟩
    · rw [setCell_farN (by omega)]
    · rw [setCell_otherN (by omega)]
  have h0 := hk 0 (by omega)
  rw [Nat.add_zero] at h0
  obtain ⟨c0, c1, c2, c3, c6, c7, ⟨b, c4, e1, e2, e3⟩, b', c5, f1, f2, f3⟩ := h
  exact ⟨h0.trans c0, (hk 1 (by omega)).trans c1, (hk 2 (by omega)).trans c2, (hk 3 (by omega)).trans c3, (hk 6 (by omega)).trans c6, (hk 7 (by omega)).trans c7, ⟨b, (hk 4 (by omega)).trans c4, e1, by simpa using e2, e3.far (by omega) v⟩, b', (hk 5 (by omega)).trans c5, f1, by simpa using f2, f3.far (by omega) v⟩
def FnsAt (w : World) (g off : Nat) (ps : List Fn) : Prop := ∀ i p, ps[i]? = some p → FnAt w g (off + i * 8) p
theorem FnsAt.of {w w1 : World} {g off : Nat} {ps : List Fn} (h : FnsAt w g off ps) (hg : g < w.heap.size) (hb : Below w.heap.size w w1) : FnsAt w1 g off ps := fun i p hp => (h i p hp).of hg hb
theorem FnsAt.far {w : World} {g off : Nat} {ps : List Fn} (h : FnsAt w g off ps) {X O : Nat} (hX : X < g) (v : Value) : FnsAt (w.setCell ⟨X, O, none⟩ v) g off ps := fun i p hp => (h i p hp).far (Or.inl hX) v
theorem FnsAt.at {w : World} {g off : Nat} {ps : List Fn} (h : FnsAt w g off ps) (i : Nat) (hi : i < ps.length) : FnAt w g (off + i * 8) ps[i] := h i ps[i] (by simp [hi])
structure OwnFns (w : World) (g n : Nat) (ps : List Fn) : Prop where
  size : g < w.heap.size
  frz : ∀ o, w.frozen? ⟨g, o, none⟩ = false
  all : ∀ o, o < n * 8 → ∃ v, w.cell? ⟨g, o, none⟩ = some v
  held : FnsAt w g 0 ps
theorem OwnFns.of {w w1 : World} {g n : Nat} {ps : List Fn} (h : OwnFns w g n ps) (hb : Below w.heap.size w w1) : OwnFns w1 g n ps :=
  ⟨Nat.lt_of_lt_of_le h.size hb.size, fun o => (hb.frozen (p := ⟨g, o, none⟩) h.size).trans (h.frz o), fun o ho => by
    obtain ⟨v, hv⟩ := h.all o ho
    exact ⟨v, (hb.cell (p := ⟨g, o, none⟩) h.size).trans hv⟩, h.held.of h.size hb⟩
theorem OwnFns.made (w : World) (n : Nat) (C : Array Value) (t : TypeId) (hC : C.size = n * 8) : OwnFns (w.alloc (.cells C t)) w.heap.size n [] :=
  ⟨by simp, fun o => by simp [go_sem], fun o ho => ⟨C[o]'(by omega), by rw [World.cell?_alloc_at C t _ o rfl]; simp⟩, fun i x hx => by simp at hx⟩
def putFn (w : World) (g o : Nat) (p : Fn) (b b' : Nat) : World := ((((((((w.setCell ⟨g, o, none⟩ (.int .i64 p.K)).setCell ⟨g, o + 1, none⟩ (.int .i64 p.T)).setCell ⟨g, o + 2, none⟩ (.int .i64 p.M)).setCell ⟨g, o + 3, none⟩ (.int .i64 p.W)).setCell ⟨g, o + 4, none⟩ (.slice (some ⟨b, 0, none⟩) p.Ex.length p.Ex.length)).setCell ⟨g, o + 5, none⟩ (.slice (some ⟨b', 0, none⟩) p.Exs.length p.Exs.length)).setCell ⟨g, o + 6, none⟩ (.int .i64 p.L)).setCell ⟨g, o + 7, none⟩ (.int .i64 p.R))
theorem putFn_below {w0 w : World} {s : Nat} (h : Below s w0 w) {g o : Nat} (hg : s ≤ g) (p : Fn) (b b' : Nat) : Below s w0 (putFn w g o p b b') := ((((((((h.setCell (p := ⟨g, o, none⟩) hg _).setCell (p := ⟨g, o + 1, none⟩) hg _).setCell (p := ⟨g, o + 2, none⟩) hg _).setCell (p := ⟨g, o + 3, none⟩) hg _).setCell (p := ⟨g, o + 4, none⟩) hg _).setCell (p := ⟨g, o + 5, none⟩) hg _).setCell (p := ⟨g, o + 6, none⟩) hg _).setCell (p := ⟨g, o + 7, none⟩) hg _)
theorem OwnFns.put {w : World} {g n k : Nat} {ps : List Fn} (h : OwnFns w g n (ps.take k)) (hk : k < ps.length) (hn : k < n) (b b' : Nat) (h1 : g < b) (h2 : b < w.heap.size) (h3 : OpsAt w b 0 (ps[k]).Ex) (f1 : g < b') (f2 : b' < w.heap.size) (f3 : OpssAt w b' (ps[k]).Exs) :
    OwnFns (putFn w g (k * 8) ps[k] b b') g n (ps.take (k + 1)) := by
  have hsz : (putFn w g (k * 8) ps[k] b b').heap.size = w.heap.size := by simp [putFn]
  have hi8 : ∀ o, o < 8 → ∃ v, w.cell? ⟨g, k * 8 + o, none⟩ = some v := fun o ho => h.all _ (by omega)
  refine ⟨by rw [hsz]; exact h.size, fun o => by unfold putFn; simp only [frozen_setCellN]; exact h.frz o, fun o ho => ?_, fun i x hx => ?_⟩
  · obtain ⟨v, hv⟩ := h.all o ho
    unfold putFn
    obtain ⟨v, hv⟩ := setCell_thereN (o' := k * 8) (v := .int .i64 (ps[k]).K) hv
    obtain ⟨v, hv⟩ := setCell_thereN (o' := k * 8 + 1) (v := .int .i64 (ps[k]).T) hv
    obtain ⟨v, hv⟩ := setCell_thereN (o' := k * 8 + 2) (v := .int .i64 (ps[k]).M) hv
    obtain ⟨v, hv⟩ := setCell_thereN (o' := k * 8 + 3) (v := .int .i64 (ps[k]).W) hv
    obtain ⟨v, hv⟩ := setCell_thereN (o' := k * 8 + 4) (v := .slice (some ⟨b, 0, none⟩) (ps[k]).Ex.length (ps[k]).Ex.length) hv
    obtain ⟨v, hv⟩ := setCell_thereN (o' := k * 8 + 5) (v := .slice (some ⟨b', 0, none⟩) (ps[k]).Exs.length (ps[k]).Exs.length) hv
    obtain ⟨v, hv⟩ := setCell_thereN (o' := k * 8 + 6) (v := .int .i64 (ps[k]).L) hv
    exact setCell_thereN hv
  · rw [take_snocN ps k hk] at hx
    have hl : (ps.take k).length = k := by simp; omega
    by_cases hi : i < k
    · rw [List.getElem?_append_left (by omega)] at hx
      have := h.held i x hx
      unfold putFn
      exact ((((((((this.far (Or.inr ⟨rfl, by omega⟩) _).far (Or.inr ⟨rfl, by omega⟩) _).far (Or.inr ⟨rfl, by omega⟩) _).far (Or.inr ⟨rfl, by omega⟩) _).far (Or.inr ⟨rfl, by omega⟩) _).far (Or.inr ⟨rfl, by omega⟩) _).far (Or.inr ⟨rfl, by omega⟩) _).far (Or.inr ⟨rfl, by omega⟩) _)
    · obtain rfl : i = k := by
        have := (List.getElem?_eq_some_iff.1 hx).1
        simp at this; omega
      rw [List.getElem?_append_right (by omega)] at hx
      simp [hl] at hx
      subst hx
      simp only [Nat.zero_add]
      obtain ⟨v0, c0⟩ := hi8 0 (by omega)
      obtain ⟨v1, c1⟩ := hi8 1 (by omega)
      obtain ⟨v2, c2⟩ := hi8 2 (by omega)
      obtain ⟨v3, c3⟩ := hi8 3 (by omega)
      obtain ⟨v4, c4⟩ := hi8 4 (by omega)
      obtain ⟨v5, c5⟩ := hi8 5 (by omega)
      obtain ⟨v6, c6⟩ := hi8 6 (by omega)
      obtain ⟨v7, c7⟩ := hi8 7 (by omega)
      refine ⟨by unfold putFn; rw [setCell_otherN (by omega), setCell_otherN (by omega), setCell_otherN (by omega), setCell_otherN (by omega), setCell_otherN (by omega), setCell_otherN (by omega), setCell_otherN (by omega)]; exact World.cell?_setCell_same _ _ _ c0, by unfold putFn; rw [setCell_otherN (by omega), setCell_otherN (by omega), setCell_otherN (by omega), setCell_otherN (by omega), setCell_otherN (by omega), setCell_otherN (by omega)]; exact World.cell?_setCell_same _ _ _ (by rw [setCell_otherN (by omega)]; exact c1), by unfold putFn; rw [setCell_otherN (by omega), setCell_otherN (by omega), setCell_otherN (by omega), setCell_otherN (by omega), setCell_otherN (by omega)]; exact World.cell?_setCell_same _ _ _ (by rw [setCell_otherN (by omega), setCell_otherN (by omega)]; exact c2), by unfold putFn; rw [setCell_otherN (by omega), setCell_otherN (by omega), setCell_otherN (by omega), setCell_otherN (by omega)]; exact World.cell?_setCell_same _ _ _ (by rw [setCell_otherN (by omega), setCell_otherN (by omega), setCell_otherN (by omega)]; exact c3), by unfold putFn; rw [setCell_otherN (by omega)]; exact World.cell?_setCell_same _ _ _ (by rw [setCell_otherN (by omega), setCell_otherN (by omega), setCell_otherN (by omega), setCell_otherN (by omega), setCell_otherN (by omega), setCell_otherN (by omega)]; exact c6), by unfold putFn; exact World.cell?_setCell_same _ _ _ (by rw [setCell_otherN (by omega), setCell_otherN (by omega), setCell_otherN (by omega), setCell_otherN (by omega), setCell_otherN (by omega), setCell_otherN (by omega), setCell_otherN (by omega)]; exact c7), ⟨b, by unfold putFn; rw [setCell_otherN (by omega), setCell_otherN (by omega), setCell_otherN (by omega)]; exact World.cell?_setCell_same _ _ _ (by rw [setCell_otherN (by omega), setCell_otherN (by omega), setCell_otherN (by omega), setCell_otherN (by omega)]; exact c4), h1, by rw [hsz]; exact h2, ?_⟩, b', by unfold putFn; rw [setCell_otherN (by omega), setCell_otherN (by omega)]; exact World.cell?_setCell_same _ _ _ (by rw [setCell_otherN (by omega), setCell_otherN (by omega), setCell_otherN (by omega), setCell_otherN (by omega), setCell_otherN (by omega)]; exact c5), f1, by rw [hsz]; exact f2, ?_⟩
      · unfold putFn
        exact ((((((((h3.far (by omega) _).far (by omega) _).far (by omega) _).far (by omega) _).far (by omega) _).far (by omega) _).far (by omega) _).far (by omega) _)
      · unfold putFn
        exact ((((((((f3.far (by omega) _).far (by omega) _).far (by omega) _).far (by omega) _).far (by omega) _).far (by omega) _).far (by omega) _).far (by omega) _)

def bulkF : List Fn → Nat
  | [] => 0
  | p :: r => p.Ex.length + (p.Exs.length + bulkO p.Exs) + bulkF r
theorem bulkF_append (a b : List Fn) : bulkF (a ++ b) = bulkF a + bulkF b := by
  induction a with
  | nil => simp [bulkF]
  | cons x a ih => simp only [List.cons_append, bulkF, ih]; omega
theorem bulkF_take (ps : List Fn) (k : Nat) (hk : k < ps.length) : bulkF (ps.take (k + 1)) = bulkF (ps.take k) + ((ps[k]).Ex.length + ((ps[k]).Exs.length + bulkO (ps[k]).Exs)) := by
  rw [take_snocN ps k hk, bulkF_append]; simp [bulkF]
theorem bulkF_take_le (ps : List Fn) (k : Nat) : bulkF (ps.take k) ≤ bulkF ps := by
  have := bulkF_append (ps.take k) (ps.drop k)
  rw [List.take_append_drop] at this
  omega
theorem bulkF_mem {ps : List Fn} {p : Fn} (h : p ∈ ps) : p.Ex.length + (p.Exs.length + bulkO p.Exs) ≤ bulkF ps := by
  induction ps with
  | nil => cases h
  | cons x r ih =>
    simp only [bulkF]
    cases List.mem_cons.1 h with
    | inl e => subst e; omega
    | inr e => have := ih e; omega
end Go.Proofs.YtkdeilhkobcglaaDoor
/-
  COPIES OF FLAT PLANS.
-/
namespace Go.Proofs.YtkdeilhkobcglaaDoor
open Go Go.RowKit

/-- make([]impl.FNode, n) -/
theorem make_fns (n : Nat) (hn : n ≤ 1048576) (w : World) :
    (Instr.makeSlice 49 (.int .i64 (n : Int)) (.int .i64 (n : Int))).run Tryd.prog w = .ok (.slice (some ⟨w.heap.size, 0, none⟩) n n) (w.alloc (.cells (madeCells #[.int .i64 0, .int .i64 0, .int .i64 0, .int .i64 0, .slice none 0 0, .slice none 0 0, .int .i64 0, .int .i64 0] (n * 8)) 111)) := by
  obtain ⟨i, hi, hz⟩ := Option.map_eq_some_iff.1 (show (Tryd.prog.info? 111).map (fun i => (i.zero, i.size, i.bytes)) = some (some (.agg #[.int .i64 0, .int .i64 0, .int .i64 0, .int .i64 0, .slice none 0 0, .slice none 0 0, .int .i64 0, .int .i64 0]), 8, 96) by kernel_rfl)
  simp only [Prod.mk.injEq] at hz
  have := run_make (P := Tryd.prog) w 49 111 i _ Tryd.underlying49 hi hz.1 .i64 .i64 (n : Int) (n : Int) (by omega) (by omega) (by rw [hz.2.2]; omega) (by omega)
  rw [hz.2.1] at this
  simpa [Value.cells] using this
theorem make_fns0 (w : World) : (Instr.makeSlice 49 (.int .i64 0) (.int .i64 0)).run Tryd.prog w = .ok (.slice (some ⟨w.heap.size, 0, none⟩) 0 0) (w.alloc (.cells #[] 111)) := by
  have := make_fns 0 (by omega) w
  rw [show madeCells #[.int .i64 0, .int .i64 0, .int .i64 0, .int .i64 0, .slice none 0 0, .slice none 0 0, .int .i64 0, .int .i64 0] (0 * 8) = #[] from Array.eq_empty_of_size_eq_zero (by simp [size_madeCells])] at this
  simpa using this

set_option maxHeartbeats 2000000 in
theorem toFNode_calls (K T M Wd L R : Int) (v v' : Value) (xs : List O2) (oss : List (List O2)) (w : World) (hv : IsOps w v xs) (hv' : IsOpss w v' oss) (hn : xs.length ≤ 1048576) (hn' : oss.length ≤ 1048576) (hx : bulkO oss ≤ 1048576) :
    Calls Tryd.prog 67 #[.agg #[.int .i64 K, .int .i64 T, .int .i64 M, .int .i64 Wd, v, v', .int .i64 L, .int .i64 R]] w fun e w' => ∃ b b', e = .returned (.agg #[.int .i64 K, .int .i64 T, .int .i64 M, .int .i64 Wd, .slice (some ⟨b, 0, none⟩) xs.length xs.length, .slice (some ⟨b', 0, none⟩) oss.length oss.length, .int .i64 L, .int .i64 R]) ∧
      w.heap.size ≤ b ∧ b < w'.heap.size ∧ OpsAt w' b 0 xs ∧ w.heap.size ≤ b' ∧ b' < w'.heap.size ∧ OpssAt w' b' oss ∧ Below w.heap.size w w' := by
  have TI := fun W (hb : Below w.heap.size w W) => toOpS_calls v xs W (hv.of hb) hn
  have TJ := fun W (hb : Below w.heap.size w W) => toOpSS_calls v' oss W (hv'.of hb) hn' hx
  have HT := hide TI; have HJ := hide TJ
  obtain ⟨a, cap, rfl⟩ := isOps_slice hv
  obtain ⟨a', cap', rfl⟩ := isOpss_slice hv'
  clear TI TJ hv hv'
  go_enter Tryd.func67, Tryd.ntmps67
  go_wp2_with fail
  refine (unhide HT _ (by (repeat (first | exact Below.refl _ _ | refine bA ?_ _ | refine Below.setCell ?_ (by simp <;> omega) _)))).mono ?_; rintro e w1 ⟨b, rfl, hb0, ho, hb1⟩
  obtain ⟨hc, hf⟩ := bcell hb1
  have hs1 : w.heap.size + 3 ≤ w1.heap.size := by have := hb1.size; simpa using this
  have hbb : w.heap.size + 3 ≤ b := by simpa using hb0
  have d1 : Below w.heap.size w w1 := bT (by (repeat (first | exact Below.refl _ _ | refine bA ?_ _))) hb1
  have HO := hide ho
  clear ho hb1 hb0
  go_wp2_with fail
  refine (unhide HJ _ (d1.setCell (by dsimp only; omega) _)).mono ?_; rintro e w2 ⟨b', rfl, hb0', ho', hb2⟩
  have hs2 : w1.heap.size ≤ w2.heap.size := by have := hb2.size; simpa using this
  have hbb' : w1.heap.size ≤ b' := by simpa using hb0'
  obtain ⟨hc2, hf2⟩ := bcell hb2
  simp only [World.size_setCell] at hc2 hf2
  have d2 : Below w.heap.size w w2 := bT (d1.setCell (by dsimp only; omega) _) hb2
  have hO2 : OpsAt w2 b 0 xs := ((unhide HO).held.far (X := w.heap.size + 1 + 1) (O := 4) (by omega) _).of (by simpa using (unhide HO).size) hb2
  have hsb : b < w2.heap.size := Nat.lt_of_lt_of_le (unhide HO).size hs2
  have HO2 := hide hO2; have HP := hide ho'.held; have HD := hide d2
  have hsb' := ho'.size
  have z1 : w.heap.size < w1.heap.size := by omega
  have z2 : w.heap.size + 1 < w1.heap.size := by omega
  have z3 : w.heap.size + 1 + 1 < w1.heap.size := by omega
  clear hO2 ho' d2 d1 hb2 HO hb0'
  go_wp2
  refine bodyPost_ret (v := .agg #[.int .i64 K, .int .i64 T, .int .i64 M, .int .i64 Wd, .slice (some ⟨b, 0, none⟩) xs.length xs.length, .slice (some ⟨b', 0, none⟩) oss.length oss.length, .int .i64 L, .int .i64 R]) (by simp [results, Tryd.results67, go_sem, hc, hc2, z2]) rfl ⟨b, b', rfl, by omega, by simpa using hsb, ?_, by omega, by simpa using hsb', ?_, ?_⟩
  · (repeat (refine OpsAt.far ?_ (by omega) _))
    exact unhide HO2
  · (repeat (refine OpssAt.far ?_ (by omega) _))
    exact unhide HP
  · (repeat (refine Below.setCell ?_ (by dsimp only; omega) _))
    exact unhide HD

set_option maxHeartbeats 2000000 in
theorem toFNodeS_calls (v : Value) (ps : List Fn) (w : World) (hv : IsFns w v ps) (hn : ps.length ≤ 1048576) (hk : ∀ p ∈ ps, p.Ex.length ≤ 1048576 ∧ p.Exs.length ≤ 1048576 ∧ bulkO p.Exs ≤ 1048576) :
    Calls Tryd.prog 36 #[v] w fun e w' => ∃ g, e = .returned (.slice (some ⟨g, 0, none⟩) ps.length ps.length) ∧ w.heap.size ≤ g ∧ OwnFns w' g ps.length ps ∧ Below w.heap.size w w' := by
  rcases hv with ⟨rfl, a, cap, rfl⟩ | ⟨g, off, cap, rfl, hg, hr⟩
  · have hmk := make_fns0
    clear hn hk
    go_enter Tryd.func36, Tryd.ntmps36
    go_wp2
    go_loopw [4] (fun i wr => i = .int .i64 0 ∧ OwnFns wr w.heap.size 0 [] ∧ Below w.heap.size w wr) (fun _ _ => 0)
    case atStart => exact ⟨rfl, OwnFns.made w 0 #[] _ rfl, bA (Below.refl _ _) _⟩
    case round =>
      obtain ⟨rfl, ho, hb⟩ := hrel
      go_wp2
      go_ret
      exact ⟨_, rfl, Nat.le_refl _, ho, hb⟩
  · have hmk := make_fns ps.length hn
    have hO : Hid (OwnFns (w.alloc (.cells (madeCells #[.int .i64 0, .int .i64 0, .int .i64 0, .int .i64 0, .slice none 0 0, .slice none 0 0, .int .i64 0, .int .i64 0] (ps.length * 8)) 111)) w.heap.size ps.length []) := OwnFns.made w _ _ _ (by simp [size_madeCells])
    have HK := hide hk
    have HR := hide hr
    clear hk hr
    go_enter Tryd.func36, Tryd.ntmps36
    go_wp2
    go_loopw [4] (fun i wr => ∃ k : Nat, k ≤ ps.length ∧ i = .int .i64 k ∧ OwnFns wr w.heap.size ps.length (ps.take k) ∧ Below w.heap.size w wr) (fun i _ => ps.length - (intOf i).toNat)
    case atStart => exact ⟨0, Nat.zero_le _, rfl, by simpa using hO.out, bA (Below.refl _ _) _⟩
    case round =>
      clear hO hmk
      obtain ⟨k, hk, rfl, ho, hb⟩ := hrel
      by_cases hlt : k < ps.length
      · obtain ⟨a0, a1, a2, a3, a6, a7, ⟨u, a4, hu⟩, u', a5, hu'⟩ := (unhide HR) k ps[k] (List.getElem?_eq_getElem hlt)
        have c0 := (hb.cell (p := ⟨g, off + k * 8, none⟩) hg).trans a0
        have c1 := (hb.cell (p := ⟨g, off + k * 8 + 1, none⟩) hg).trans a1
        have c2 := (hb.cell (p := ⟨g, off + k * 8 + 2, none⟩) hg).trans a2
        have c3 := (hb.cell (p := ⟨g, off + k * 8 + 3, none⟩) hg).trans a3
        have c4 := (hb.cell (p := ⟨g, off + k * 8 + 4, none⟩) hg).trans a4
        have c5 := (hb.cell (p := ⟨g, off + k * 8 + 5, none⟩) hg).trans a5
        have c6 := (hb.cell (p := ⟨g, off + k * 8 + 6, none⟩) hg).trans a6
        have c7 := (hb.cell (p := ⟨g, off + k * 8 + 7, none⟩) hg).trans a7
        obtain ⟨hk1, hk2, hk3⟩ := unhide HK _ (List.getElem_mem hlt)
        have hput := fun (w1 : World) (h : OwnFns w1 w.heap.size ps.length (ps.take k)) b b' h1 h2 h3 h4 h5 h6 => h.put hlt hlt b b' h1 h2 h3 h4 h5 h6
        have hTN := fun W (hbW : Below w.heap.size w W) => toFNode_calls (ps[k]).K (ps[k]).T (ps[k]).M (ps[k]).W (ps[k]).L (ps[k]).R u u' (ps[k]).Ex (ps[k]).Exs W (hu.of hbW) (hu'.of hbW) hk1 hk2 hk3
        cases e : ps[k] with | mk K T M Wd Ex Exs L R =>
        rw [e] at c0 c1 c2 c3 c6 c7 hput hTN hu hu'
        simp only at c0 c1 c2 c3 c6 c7 hput hTN hu hu'
        obtain ⟨ua, ucap, rfl⟩ := isOps_slice hu
        obtain ⟨ua', ucap', rfl⟩ := isOpss_slice hu'
        have HTN := hide hTN; have HPut := hide hput
        have HO := hide ho
        have q1 : g < wr.heap.size := Nat.lt_of_lt_of_le hg hb.size
        have j1 : (k : Int) < (ps.length : Int) := by omega
        clear hTN hput hu hu' e ho a0 a1 a2 a3 a4 a5 a6 a7 hk1 hk2 hk3
        go_wp2_with fail
        refine (unhide HTN _ hb).mono ?_; rintro e w1 ⟨b, b', rfl, hb0, hbs, hbo, hb0', hbs', hbo', hb1⟩
        have d1 := bT hb hb1
        have ho1 := (unhide HO).of hb1
        have hN := unhide HPut w1 ho1 b b' (Nat.lt_of_lt_of_le (unhide HO).size hb0) hbs hbo (Nat.lt_of_lt_of_le (unhide HO).size hb0') hbs' hbo'
        obtain ⟨u0, hu0⟩ := ho1.all (k * 8) (by omega)
        obtain ⟨u1, hu1⟩ := ho1.all (k * 8 + 1) (by omega)
        obtain ⟨u2, hu2⟩ := ho1.all (k * 8 + 2) (by omega)
        obtain ⟨u3, hu3⟩ := ho1.all (k * 8 + 3) (by omega)
        obtain ⟨u4, hu4⟩ := ho1.all (k * 8 + 4) (by omega)
        obtain ⟨u5, hu5⟩ := ho1.all (k * 8 + 5) (by omega)
        obtain ⟨u6, hu6⟩ := ho1.all (k * 8 + 6) (by omega)
        obtain ⟨u7, hu7⟩ := ho1.all (k * 8 + 7) (by omega)
        have hf := ho1.frz
        have HN := hide hN
        have HB := hide (putFn_below (g := w.heap.size) (o := k * 8) d1 (Nat.le_refl _) ⟨K, T, M, Wd, Ex, Exs, L, R⟩ b b')
        clear hN ho1 hbo hbo' hb1 HO HPut HTN c0 c1 c2 c3 c4 c5 c6 c7 hb0 hb0' hbs hbs'
        go_wp2
        go_roundw
        case rel => exact ⟨k + 1, by omega, by go_num, unhide HN, unhide HB⟩
        case measure => simp [intOf]; omega
      · obtain rfl : k = ps.length := by omega
        rw [List.take_length] at ho
        go_wp2
        go_ret
        exact ⟨_, rfl, Nat.le_refl _, ho, hb⟩

set_option maxHeartbeats 1000000 in
theorem toFlat_calls (v : Value) (Rt : Int) (ps : List Fn) (w : World) (hv : IsFns w v ps) (hn : ps.length ≤ 1048576) (hk : ∀ p ∈ ps, p.Ex.length ≤ 1048576 ∧ p.Exs.length ≤ 1048576 ∧ bulkO p.Exs ≤ 1048576) :
    Calls Tryd.prog 18 #[.agg #[v, .int .i64 Rt]] w fun e w' => ∃ g, e = .returned (.agg #[.slice (some ⟨g, 0, none⟩) ps.length ps.length, .int .i64 Rt]) ∧ w.heap.size ≤ g ∧ g < w'.heap.size ∧ FnsAt w' g 0 ps ∧ Below w.heap.size w w' := by
  have TI := fun W (hb : Below w.heap.size w W) => toFNodeS_calls v ps W (hv.of hb) hn hk
  have HT := hide TI
  obtain ⟨a, cap, rfl⟩ := isFns_slice hv
  clear TI hv
  go_enter Tryd.func18, Tryd.ntmps18
  go_wp2_with fail
  refine (unhide HT _ (by (repeat (first | exact Below.refl _ _ | refine bA ?_ _)))).mono ?_; rintro e w1 ⟨g, rfl, hg, ho, hb1⟩
  obtain ⟨hc, hf⟩ := bcell hb1
  have hs1 : w.heap.size + 3 ≤ w1.heap.size := by have := hb1.size; simpa using this
  have hg1 : w.heap.size + 3 ≤ g := by simpa using hg
  have HO := hide ho; have HB := hide (bT (by (repeat (first | exact Below.refl _ _ | refine bA ?_ _))) hb1 : Below w.heap.size w w1)
  clear ho hb1 hg
  go_wp2
  refine bodyPost_ret (v := .agg #[.slice (some ⟨g, 0, none⟩) ps.length ps.length, .int .i64 Rt]) (by simp [results, Tryd.results18, go_sem, hc]) rfl ⟨g, rfl, by omega, ?_, ?_, ?_⟩
  · have := (unhide HO).size
    simpa using this
  · (repeat (refine FnsAt.far ?_ (by omega) _))
    exact (unhide HO).held
  · (repeat (refine Below.setCell ?_ (by dsimp only; omega) _))
    exact unhide HB
end Go.Proofs.YtkdeilhkobcglaaDoor
/-
  HOW MUCH FLAT PLANS HOLD, as the law counts it.
-/
namespace Go.Proofs.YtkdeilhkobcglaaDoor
open Go Go.RowKit

set_option maxHeartbeats 1000000 in
theorem szFNode_calls (K T M Wd L R : Int) (v v' : Value) (xs : List O2) (oss : List (List O2)) (left : Int) (w : World) (hv : IsOps w v xs) (hv' : IsOpss w v' oss) (hl : xs.length ≤ maxLen) (hl' : oss.length ≤ maxLen) (hl2 : ∀ xs ∈ oss, xs.length ≤ maxLen) (h0 : 0 ≤ left) (h1 : left ≤ 1048576) :
    Calls Tryd.prog 62 #[.agg #[.int .i64 K, .int .i64 T, .int .i64 M, .int .i64 Wd, v, v', .int .i64 L, .int .i64 R], .int .i64 left] w fun e w' => e = .returned (.int .i64 (szr left (xs.length + (oss.length + bulkO oss)))) ∧ Below w.heap.size w w' := by
  have S1 := fun W (hb : Below w.heap.size w W) => szOpS_szr v xs left W (hv.of hb) hl h0 h1
  have S2 := fun W (hb : Below w.heap.size w W) (l : Int) h0 h1 => szOpSS_calls v' oss l W (hv'.of hb) hl' hl2 h0 h1
  obtain ⟨a, cap, rfl⟩ := isOps_slice hv
  obtain ⟨a', cap', rfl⟩ := isOpss_slice hv'
  have hA := szr_two left xs.length
  have hB := szr_le left xs.length h1
  have hC := szr_szr left xs.length (oss.length + bulkO oss)
  have hD := fun h => szr_neg left xs.length (oss.length + bulkO oss) h h0
  have S3 := fun W hb (h : 0 ≤ szr left xs.length) => S2 W hb (szr left xs.length) h hB
  have hE := szr_two left (xs.length + (oss.length + bulkO oss))
  generalize szr left (xs.length + (oss.length + bulkO oss)) = z at *
  generalize szr left xs.length = y at *
  have HS1 := hide S1; have HS3 := hide S3; have HC := hide hC; have HD := hide hD
  clear S1 S2 S3 hv hv' hl2 hC hD
  by_cases hy : y < 0
  · have HZ := hide (unhide HD hy)
    have HY := hide (show y = -1 by omega)
    clear HD HC HS3 hA hE
    go_enter Tryd.func62, Tryd.ntmps62
    go_wp2_with fail
    refine (unhide HS1 _ (bA (Below.refl _ _) _)).mono ?_; rintro e w1 ⟨rfl, rfl⟩
    go_wp2
    go_ret
    exact ⟨congrArg (fun z => Ending.returned (.int .i64 z)) (unhide HZ).symm, bA (Below.refl _ _) _⟩
  · have S4 := fun W hb => unhide HS3 W hb (by omega)
    rw [unhide HC (by omega)] at S4
    have HS4 := hide S4
    clear S4 HS3 HC HD hA
    by_cases hz : z < 0
    · have HZ := hide (show z = -1 by omega)
      clear hE
      go_enter Tryd.func62, Tryd.ntmps62
      go_wp2_with fail
      refine (unhide HS1 _ (bA (Below.refl _ _) _)).mono ?_; rintro e w1 ⟨rfl, rfl⟩
      go_wp2_with fail
      refine (unhide HS4 _ (bA (Below.refl _ _) _)).mono ?_; rintro e w1 ⟨rfl, rfl⟩
      go_wp2
      go_ret
      exact ⟨congrArg (fun z => Ending.returned (.int .i64 z)) (unhide HZ).symm, bA (Below.refl _ _) _⟩
    · clear hE
      go_enter Tryd.func62, Tryd.ntmps62
      go_wp2_with fail
      refine (unhide HS1 _ (bA (Below.refl _ _) _)).mono ?_; rintro e w1 ⟨rfl, rfl⟩
      go_wp2_with fail
      refine (unhide HS4 _ (bA (Below.refl _ _) _)).mono ?_; rintro e w1 ⟨rfl, rfl⟩
      go_wp2
      go_ret
      exact ⟨rfl, bA (Below.refl _ _) _⟩

/-- no list is longer than an argument can be -/
def FitsF (ps : List Fn) : Prop := ∀ p ∈ ps, p.Ex.length ≤ maxLen ∧ p.Exs.length ≤ maxLen ∧ ∀ xs ∈ p.Exs, xs.length ≤ maxLen

set_option maxHeartbeats 2000000 in
theorem szFNodeS_calls (v : Value) (ps : List Fn) (left : Int) (w : World) (hv : IsFns w v ps) (hl : ps.length ≤ maxLen) (hf : FitsF ps) (h0 : 0 ≤ left) (h1 : left ≤ 1048576) :
    Calls Tryd.prog 34 #[v, .int .i64 left] w fun e w' => e = .returned (.int .i64 (szr left (ps.length + bulkF ps))) ∧ Below w.heap.size w w' := by
  have HV := hide hv
  obtain ⟨a, cap, rfl⟩ := isFns_slice hv
  have HF := hide hf
  clear hv hf
  unfold maxLen at hl
  by_cases c1 : left < (ps.length : Int)
  · have HE : Hid (szr left (ps.length + bulkF ps) = -1) := by show _ = _; unfold szr; rw [if_pos (by omega)]
    go_enter Tryd.func34, Tryd.ntmps34
    go_wp2
    go_ret
    exact ⟨congrArg (fun z => Ending.returned (.int .i64 z)) HE.out.symm, Below.refl _ _⟩
  go_enter Tryd.func34, Tryd.ntmps34
  go_wp2
  go_loopw [1, 5] (fun l c wr => ∃ (k : Nat) (lv : Int), k ≤ ps.length ∧ c = .int .i64 k ∧ l = .int .i64 lv ∧ lv = left - (ps.length : Int) - (bulkF (ps.take k) : Int) ∧ 0 ≤ lv ∧ Below w.heap.size w wr) (fun _ c _ => ps.length - (intOf c).toNat)
  case atStart => exact ⟨0, _, Nat.zero_le _, rfl, rfl, by simp [bulkF], by omega, Below.refl _ _⟩
  case round =>
    obtain ⟨k, lv, hk, rfl, rfl, hlv, hlv0, hb⟩ := hrel
    have HLV := hide hlv
    have hlv1 : lv ≤ 1048576 := by omega
    clear hlv
    by_cases hlt : k < ps.length
    · obtain ⟨g, off, rfl, hg, a0, a1, a2, a3, a6, a7, ⟨ua, ucap, a4, hu⟩, ua', ucap', a5, hu'⟩ : ∃ g off, a = some ⟨g, off, none⟩ ∧ g < w.heap.size ∧ w.cell? ⟨g, off + k * 8, none⟩ = some (.int .i64 (ps[k]).K) ∧ w.cell? ⟨g, off + k * 8 + 1, none⟩ = some (.int .i64 (ps[k]).T) ∧ w.cell? ⟨g, off + k * 8 + 2, none⟩ = some (.int .i64 (ps[k]).M) ∧ w.cell? ⟨g, off + k * 8 + 3, none⟩ = some (.int .i64 (ps[k]).W) ∧
          w.cell? ⟨g, off + k * 8 + 6, none⟩ = some (.int .i64 (ps[k]).L) ∧ w.cell? ⟨g, off + k * 8 + 7, none⟩ = some (.int .i64 (ps[k]).R) ∧
          (∃ ua ucap, w.cell? ⟨g, off + k * 8 + 4, none⟩ = some (.slice ua (ps[k]).Ex.length ucap) ∧ IsOps w (.slice ua (ps[k]).Ex.length ucap) (ps[k]).Ex) ∧ ∃ ua ucap, w.cell? ⟨g, off + k * 8 + 5, none⟩ = some (.slice ua (ps[k]).Exs.length ucap) ∧ IsOpss w (.slice ua (ps[k]).Exs.length ucap) (ps[k]).Exs := by
        rcases unhide HV with ⟨h, _⟩ | ⟨g, off, cap', he, hg, hr⟩
        · subst h; simp at hlt
        · simp only [Value.slice.injEq, true_and] at he
          obtain ⟨rfl, rfl⟩ := he
          obtain ⟨b0, b1, b2, b3, b6, b7, ⟨u, b4, hu⟩, u', b5, hu'⟩ := hr k ps[k] (List.getElem?_eq_getElem hlt)
          obtain ⟨ua, ucap, rfl⟩ := isOps_slice hu
          obtain ⟨ua', ucap', rfl⟩ := isOpss_slice hu'
          exact ⟨g, off, rfl, hg, b0, b1, b2, b3, b6, b7, ⟨ua, ucap, b4, hu⟩, ua', ucap', b5, hu'⟩
      have c0 := (hb.cell (p := ⟨g, off + k * 8, none⟩) hg).trans a0
      have c1' := (hb.cell (p := ⟨g, off + k * 8 + 1, none⟩) hg).trans a1
      have c2 := (hb.cell (p := ⟨g, off + k * 8 + 2, none⟩) hg).trans a2
      have c3 := (hb.cell (p := ⟨g, off + k * 8 + 3, none⟩) hg).trans a3
      have c4 := (hb.cell (p := ⟨g, off + k * 8 + 4, none⟩) hg).trans a4
      have c5 := (hb.cell (p := ⟨g, off + k * 8 + 5, none⟩) hg).trans a5
      have c6 := (hb.cell (p := ⟨g, off + k * 8 + 6, none⟩) hg).trans a6
      have c7 := (hb.cell (p := ⟨g, off + k * 8 + 7, none⟩) hg).trans a7
      obtain ⟨f1, f2, f3⟩ := unhide HF _ (List.getElem_mem hlt)
      have SN := szFNode_calls (ps[k]).K (ps[k]).T (ps[k]).M (ps[k]).W (ps[k]).L (ps[k]).R _ _ (ps[k]).Ex (ps[k]).Exs lv wr (hu.of hb) (hu'.of hb) f1 f2 f3 hlv0 hlv1
      have hbt := bulkF_take ps k hlt
      have hble := bulkF_take_le ps (k + 1)
      have q1 : g < wr.heap.size := Nat.lt_of_lt_of_le hg hb.size
      have j1 : (k : Int) < (ps.length : Int) := by omega
      clear hu hu' f1 f2 f3 a0 a1 a2 a3 a4 a5 a6 a7
      generalize (ps[k]).Ex.length + ((ps[k]).Exs.length + bulkO (ps[k]).Exs) = tot at *
      cases e : ps[k] with | mk K T M Wd Ex Exs L R =>
      rw [e] at c0 c1' c2 c3 c4 c5 c6 c7 SN
      simp only at c0 c1' c2 c3 c4 c5 c6 c7 SN
      clear e
      by_cases hlow : lv < (tot : Int)
      · have HE : Hid (szr left (ps.length + bulkF ps) = -1) := by
          show _ = _
          have := unhide HLV
          unfold szr
          rw [if_pos (by omega)]
        have e2 : szr lv tot = -1 := by unfold szr; rw [if_pos hlow]
        rw [e2] at SN
        have HSN := hide SN
        clear SN e2
        go_wp2_with fail
        refine (unhide HSN).mono ?_; rintro e w1 ⟨rfl, hb1⟩
        go_wp2
        go_ret
        exact ⟨congrArg (fun z => Ending.returned (.int .i64 z)) HE.out.symm, bT hb hb1⟩
      · have e2 : szr lv tot = lv - (tot : Int) := by unfold szr; rw [if_neg hlow]
        rw [e2] at SN
        have HSN := hide SN; have HBT := hide hbt
        have n1 : ¬ lv - (tot : Int) < 0 := by omega
        clear SN e2 hbt hble
        go_wp2_with fail
        refine (unhide HSN).mono ?_; rintro e w1 ⟨rfl, hb1⟩
        go_wp2
        go_roundw
        case rel => exact ⟨k + 1, _, by omega, by go_num, rfl, by have := unhide HLV; have := unhide HBT; omega, by omega, bT hb hb1⟩
        case measure => simp [intOf]; omega
    · obtain rfl : k = ps.length := by omega
      have HE : Hid (szr left (ps.length + bulkF ps) = lv) := by
        show _ = _
        have := unhide HLV
        rw [List.take_length] at this
        unfold szr
        rw [if_neg (by omega)]
        omega
      clear HLV
      go_wp2
      go_ret
      exact ⟨congrArg (fun z => Ending.returned (.int .i64 z)) HE.out.symm, hb⟩

theorem szFlat_calls (v : Value) (Rt : Int) (ps : List Fn) (left : Int) (w : World) (hv : IsFns w v ps) (hl : ps.length ≤ maxLen) (hf : FitsF ps) (h0 : 0 ≤ left) (h1 : left ≤ 1048576) :
    Calls Tryd.prog 16 #[.agg #[v, .int .i64 Rt], .int .i64 left] w fun e w' => e = .returned (.int .i64 (szr left (ps.length + bulkF ps))) ∧ Below w.heap.size w w' := by
  have SN := fun W (hb : Below w.heap.size w W) => szFNodeS_calls v ps left W (hv.of hb) hl hf h0 h1
  obtain ⟨a, cap, rfl⟩ := isFns_slice hv
  have hz : szr left (ps.length + bulkF ps) = -1 ∨ 0 ≤ szr left (ps.length + bulkF ps) := by unfold szr; split <;> omega
  generalize szr left (ps.length + bulkF ps) = z at *
  have HSN := hide SN
  clear SN hv hf
  by_cases hz' : z < 0
  · have : z = -1 := by omega
    have HZ := hide this
    clear this hz
    go_enter Tryd.func16, Tryd.ntmps16
    go_wp2_with fail
    refine (unhide HSN _ (bA (Below.refl _ _) _)).mono ?_; rintro e w1 ⟨rfl, hb1⟩
    go_wp2
    go_ret
    exact ⟨congrArg (fun z => Ending.returned (.int .i64 z)) (unhide HZ).symm, bT (bA (Below.refl _ _) _) hb1⟩
  · clear hz
    go_enter Tryd.func16, Tryd.ntmps16
    go_wp2_with fail
    refine (unhide HSN _ (bA (Below.refl _ _) _)).mono ?_; rintro e w1 ⟨rfl, hb1⟩
    go_wp2
    go_ret
    exact ⟨rfl, bT (bA (Below.refl _ _) _) hb1⟩
end Go.Proofs.YtkdeilhkobcglaaDoor
/-
  FLAT PLANS HELD AGAINST EACH OTHER, where they are the same.
-/
namespace Go.Proofs.YtkdeilhkobcglaaDoor
open Go Go.RowKit

set_option maxHeartbeats 1000000 in
theorem eqFNode_calls (K T M Wd L R : Int) (xs : List O2) (oss : List (List O2)) (b b' d d' : Nat) (w : World) (hb : b < w.heap.size) (hb' : b' < w.heap.size) (hd : d < w.heap.size) (hd' : d' < w.heap.size) (hx : OpsAt w b 0 xs) (hy : OpsAt w b' 0 xs) (hX : OpssAt w d oss) (hY : OpssAt w d' oss)
    (b1 : xs.length ≤ 1048576) (b2 : oss.length ≤ 1048576) (hk : ∀ xs ∈ oss, xs.length ≤ 1048576) :
    Calls Tryd.prog 71 #[.agg #[.int .i64 K, .int .i64 T, .int .i64 M, .int .i64 Wd, .slice (some ⟨b, 0, none⟩) xs.length xs.length, .slice (some ⟨d, 0, none⟩) oss.length oss.length, .int .i64 L, .int .i64 R], .agg #[.int .i64 K, .int .i64 T, .int .i64 M, .int .i64 Wd, .slice (some ⟨b', 0, none⟩) xs.length xs.length, .slice (some ⟨d', 0, none⟩) oss.length oss.length, .int .i64 L, .int .i64 R]] w fun e w' => e = .returned (.bool true) ∧ Below w.heap.size w w' := by
  have E1 := fun W (h : Below w.heap.size w W) => eqOpS_calls xs b 0 xs.length b' 0 xs.length W (Nat.lt_of_lt_of_le hb h.size) (Nat.lt_of_lt_of_le hb' h.size) (hx.of hb h) (hy.of hb' h) b1
  have E2 := fun W (h : Below w.heap.size w W) => eqOpSS_calls oss d d' oss.length oss.length W (Nat.lt_of_lt_of_le hd h.size) (Nat.lt_of_lt_of_le hd' h.size) (hX.of hd h) (hY.of hd' h) b2 hk
  have H1 := hide E1; have H2 := hide E2
  have eK : (K != K) = false := by simp
  have eT : (T != T) = false := by simp
  have eM : (M != M) = false := by simp
  have eW : (Wd != Wd) = false := by simp
  have eL : (L != L) = false := by simp
  have eR : (R != R) = false := by simp
  clear E1 E2 hx hy hX hY hk
  go_enter Tryd.func71, Tryd.ntmps71
  go_wp2_with fail
  refine (unhide H1 _ (bA (bA (Below.refl _ _) _) _)).mono ?_; rintro e w1 ⟨rfl, hb1⟩
  have d1 := bT (bA (bA (Below.refl w.heap.size w) _) _) hb1
  obtain ⟨hc, hf⟩ := bcell hb1
  have z0 : w.heap.size < w1.heap.size := by have := hb1.size; simp at this; omega
  have z1 : w.heap.size + 1 < w1.heap.size := by have := hb1.size; simp at this; omega
  clear hb1
  go_wp2_with fail
  refine (unhide H2 _ d1).mono ?_; rintro e w2 ⟨rfl, hb2⟩
  have d2 := bT d1 hb2
  obtain ⟨hc2, hf2⟩ := bcell hb2
  clear hb2
  go_wp2
  go_ret
  exact ⟨rfl, d2⟩

set_option maxHeartbeats 2000000 in
theorem eqFNodeS_calls (ps : List Fn) (g g' cap cap' : Nat) (w : World) (hg : g < w.heap.size) (hg' : g' < w.heap.size) (hx : FnsAt w g 0 ps) (hy : FnsAt w g' 0 ps) (b1 : ps.length ≤ 1048576) (hk : ∀ p ∈ ps, p.Ex.length ≤ 1048576 ∧ p.Exs.length ≤ 1048576 ∧ bulkO p.Exs ≤ 1048576) :
    Calls Tryd.prog 38 #[.slice (some ⟨g, 0, none⟩) ps.length cap, .slice (some ⟨g', 0, none⟩) ps.length cap'] w fun e w' => e = .returned (.bool true) ∧ Below w.heap.size w w' := by
  have e0 : ((ps.length : Int) != (ps.length : Int)) = false := by simp
  have HX := hide hx; have HY := hide hy; have HK := hide hk
  clear hx hy hk
  go_enter Tryd.func38, Tryd.ntmps38
  go_wp2
  go_loopw [5] (fun c wr => ∃ k : Nat, k ≤ ps.length ∧ c = .int .i64 k ∧ Below w.heap.size w wr) (fun c _ => ps.length - (intOf c).toNat)
  case atStart => exact ⟨0, Nat.zero_le _, rfl, Below.refl _ _⟩
  case round =>
    obtain ⟨k, hk1, rfl, hb⟩ := hrel
    by_cases l1 : k < ps.length
    · obtain ⟨x0, x1, x2, x3, x6, x7, ⟨bx, x4, _, hbx, hox⟩, dx, x5, _, hdx, hpx⟩ := ((unhide HX).of hg hb).at k l1
      obtain ⟨y0, y1, y2, y3, y6, y7, ⟨bY, y4, _, hbY, hoy⟩, dY, y5, _, hdY, hpy⟩ := ((unhide HY).of hg' hb).at k l1
      obtain ⟨hk1', hk2', hk3'⟩ := unhide HK _ (List.getElem_mem l1)
      simp only [Nat.zero_add] at x0 x1 x2 x3 x4 x5 x6 x7 y0 y1 y2 y3 y4 y5 y6 y7
      have j1 : (k : Int) < (ps.length : Int) := by omega
      have q1 : g < wr.heap.size := Nat.lt_of_lt_of_le hg hb.size
      have q2 : g' < wr.heap.size := Nat.lt_of_lt_of_le hg' hb.size
      cases e : ps[k] with | mk K T M Wd Ex Exs L R =>
      rw [e] at x0 x1 x2 x3 x4 x5 x6 x7 y0 y1 y2 y3 y4 y5 y6 y7 hox hoy hpx hpy hk1' hk2' hk3'
      simp only at x0 x1 x2 x3 x4 x5 x6 x7 y0 y1 y2 y3 y4 y5 y6 y7 hox hoy hpx hpy hk1' hk2' hk3'
      have EN : Hid (∀ W, Std wr W → Calls Tryd.prog 71 #[.agg #[.int .i64 K, .int .i64 T, .int .i64 M, .int .i64 Wd, .slice (some ⟨bx, 0, none⟩) Ex.length Ex.length, .slice (some ⟨dx, 0, none⟩) Exs.length Exs.length, .int .i64 L, .int .i64 R], .agg #[.int .i64 K, .int .i64 T, .int .i64 M, .int .i64 Wd, .slice (some ⟨bY, 0, none⟩) Ex.length Ex.length, .slice (some ⟨dY, 0, none⟩) Exs.length Exs.length, .int .i64 L, .int .i64 R]] W fun e w' => e = .returned (.bool true) ∧ Below W.heap.size W w') :=
        fun W h => eqFNode_calls K T M Wd L R Ex Exs bx bY dx dY W (Nat.lt_of_lt_of_le hbx h.2.2.size) (Nat.lt_of_lt_of_le hbY h.2.2.size) (Nat.lt_of_lt_of_le hdx h.2.2.size) (Nat.lt_of_lt_of_le hdY h.2.2.size) (hox.of hbx h.2.2) (hoy.of hbY h.2.2) (hpx.of hdx h.2.2) (hpy.of hdY h.2.2) hk1' hk2' (fun xs hxs => Nat.le_trans (bulkO_mem hxs) hk3')
      clear e hox hoy hpx hpy
      go_upto_region 6 with fail
      have h1 := Below.refl wr.heap.size wr
      have h2 := h1
      go_region_held3 (Std wr) (repeat (first | with_reducible assumption | with_reducible exact Std.refl _ | with_reducible refine Std.drew ?_ | with_reducible refine Std.alloc ?_ _ | with_reducible refine Std.setCell ?_ ?_ _ | with_reducible refine Std.call ?_ (by with_reducible assumption) | (simp <;> omega) | omega)) (first | (go_at_call 71; refine (unhide EN _ (by assumption)).mono ?_; rintro e w1 ⟨rfl, hb⟩; (first | have n3 := bT h2 hb | have n3 := bT (bA h2 _) hb | have n3 := bT (Below.drew h2) hb | have n3 := bT (Below.drew (bA h2 _)) hb | have n3 := bT (bA (Below.drew h2) _) hb); (first | have n2 := bT h1 hb | have n2 := bT (bA h1 _) hb | have n2 := bT (Below.drew h1) hb | have n2 := bT (Below.drew (bA h1 _)) hb | have n2 := bT (bA (Below.drew h1) _) hb); obtain ⟨c1, f1⟩ := bcell hb; obtain ⟨c2, f2⟩ := bcell n2; obtain ⟨c3, f3⟩ := bcell n3; have hs := hb.size; (try simp at hs); clear h1 h2; have h1 := hb; have h2 := n2; clear n2 hb))
      have hS : Std wr w1 := by assumption
      have d2 := bT hb hS.2.2
      go_wp2
      go_roundw
      case rel => exact ⟨k + 1, by omega, by go_num, d2⟩
      case measure => simp [intOf]; omega
    · go_wp2
      go_ret
      exact ⟨rfl, hb⟩

theorem eqFlat_calls (Rt : Int) (ps : List Fn) (g g' cap cap' : Nat) (w : World) (hg : g < w.heap.size) (hg' : g' < w.heap.size) (hx : FnsAt w g 0 ps) (hy : FnsAt w g' 0 ps) (b1 : ps.length ≤ 1048576) (hk : ∀ p ∈ ps, p.Ex.length ≤ 1048576 ∧ p.Exs.length ≤ 1048576 ∧ bulkO p.Exs ≤ 1048576) :
    Calls Tryd.prog 20 #[.agg #[.slice (some ⟨g, 0, none⟩) ps.length cap, .int .i64 Rt], .agg #[.slice (some ⟨g', 0, none⟩) ps.length cap', .int .i64 Rt]] w fun e w' => e = .returned (.bool true) ∧ Below w.heap.size w w' := by
  have EN := fun W (hb : Below w.heap.size w W) => eqFNodeS_calls ps g g' cap cap' W (Nat.lt_of_lt_of_le hg hb.size) (Nat.lt_of_lt_of_le hg' hb.size) (hx.of hg hb) (hy.of hg' hb) b1 hk
  have HEN := hide EN
  have eR : (Rt != Rt) = false := by simp
  clear EN hx hy hk
  go_enter Tryd.func20, Tryd.ntmps20
  go_wp2_with fail
  refine (unhide HEN _ (bA (bA (Below.refl _ _) _) _)).mono ?_; rintro e w1 ⟨rfl, hb1⟩
  obtain ⟨hc, hf⟩ := bcell hb1
  have z0 : w.heap.size < w1.heap.size := by have := hb1.size; simp at this; omega
  have z1 : w.heap.size + 1 < w1.heap.size := by have := hb1.size; simp at this; omega
  have d1 := bT (bA (bA (Below.refl w.heap.size w) _) _) hb1
  clear hb1
  go_wp2
  go_ret
  exact ⟨rfl, d1⟩
end Go.Proofs.YtkdeilhkobcglaaDoor
