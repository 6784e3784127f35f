import Derived.Test.YtnchcndcinpalaaGreatDoorQ3
import Derived.OwnWalk
import Derived.Test.YtnchcndcinpalaaGreatDoorQ0
namespace Go.Proofs.YtnchcndcinpalaaGreatDoor
open Go Go.RowKit
abbrev V2 : Type := Bool × Int
def RowAt (w : World) (g off : Nat) (xs : List V2) : Prop := ∀ i x, xs[i]? = some x → w.cell? ⟨g, off + i * 2, none⟩ = some (.bool x.1) ∧ w.cell? ⟨g, off + i * 2 + 1, none⟩ = some (.int .i64 x.2)
def IsRow (w : World) (v : Value) (xs : List V2) : Prop :=
  (xs = [] ∧ ∃ a cap, v = .slice a 0 cap) ∨ ∃ g off cap, v = .slice (some ⟨g, off, none⟩) xs.length cap ∧ xs.length ≤ cap ∧ g < w.heap.size ∧ RowAt w g off xs
theorem RowAt.of {w w1 : World} {g off : Nat} {xs : List V2} (h : RowAt w g off xs) (hg : g < w.heap.size) (hb : Below w.heap.size w w1) : RowAt w1 g off xs := fun i x hx =>
  ⟨(hb.cell (p := ⟨g, off + i * 2, none⟩) hg).trans (h i x hx).1, (hb.cell (p := ⟨g, off + i * 2 + 1, none⟩) hg).trans (h i x hx).2⟩
theorem IsRow.of {w w1 : World} {v : Value} {xs : List V2} (h : IsRow w v xs) (hb : Below w.heap.size w w1) : IsRow w1 v xs := by
  rcases h with h | ⟨g, off, cap, h1, h2, h3, h4⟩
  · exact Or.inl h
  · exact Or.inr ⟨g, off, cap, h1, h2, Nat.lt_of_lt_of_le h3 hb.size, h4.of h3 hb⟩
theorem RowAt.tail {w : World} {g off : Nat} {x : V2} {xs : List V2} (h : RowAt w g off (x :: xs)) : RowAt w g (off + 2) xs := fun i y hy => by
  have := h (i + 1) y (by simpa using hy)
  rw [show off + 2 + i * 2 = off + (i + 1) * 2 from by omega]
  exact this
theorem RowAt.at {w : World} {g off : Nat} {xs : List V2} (h : RowAt w g off xs) (i : Nat) (hi : i < xs.length) : w.cell? ⟨g, off + i * 2, none⟩ = some (.bool xs[i].1) ∧ w.cell? ⟨g, off + i * 2 + 1, none⟩ = some (.int .i64 xs[i].2) :=
  h i xs[i] (by simp [hi])
structure OwnRow (w : World) (g n : Nat) (xs : List V2) : Prop where
  size : g < w.heap.size
  frz : ∀ o, w.frozen? ⟨g, o, none⟩ = false
  all : ∀ o, o < n * 2 → ∃ v, w.cell? ⟨g, o, none⟩ = some v
  held : RowAt w g 0 xs
theorem OwnRow.of {w w1 : World} {g n : Nat} {xs : List V2} (h : OwnRow w g n xs) (hb : Below w.heap.size w w1) : OwnRow w1 g n xs :=
  ⟨Nat.lt_of_lt_of_le h.size hb.size, fun o => (hb.frozen (p := ⟨g, o, none⟩) h.size).trans (h.frz o), fun o ho => by
    obtain ⟨v, hv⟩ := h.all o ho
    exact ⟨v, (hb.cell (p := ⟨g, o, none⟩) h.size).trans hv⟩, h.held.of h.size hb⟩
theorem frozen_setCell (w : World) (p a : Addr) (v : Value) : (w.setCell p v).frozen? a = w.frozen? a := by simp [go_sem]
theorem setCell_there {w : World} {g o o' : Nat} {v u : Value} (h : w.cell? ⟨g, o, none⟩ = some u) : ∃ z, (w.setCell ⟨g, o', none⟩ v).cell? ⟨g, o, none⟩ = some z := by
  by_cases e : o' = o
  · subst e; exact ⟨v, World.cell?_setCell_same _ _ _ h⟩
  · exact ⟨u, by rw [World.cell?_setCell_other _ _ _ _ (by intro he; injection he; contradiction)]; exact h⟩
theorem setCell_other {w : World} {g o o' : Nat} {v : Value} (h : o' ≠ o) : (w.setCell ⟨g, o', none⟩ v).cell? ⟨g, o, none⟩ = w.cell? ⟨g, o, none⟩ :=
  World.cell?_setCell_other _ _ _ _ (by intro he; injection he; contradiction)
theorem OwnRow.push {w : World} {g n : Nat} {xs : List V2} (h : OwnRow w g n xs) (hn : xs.length < n) (b : Bool) (k : Int) :
    OwnRow ((w.setCell ⟨g, xs.length * 2, none⟩ (.bool b)).setCell ⟨g, xs.length * 2 + 1, none⟩ (.int .i64 k)) g n (xs ++ [(b, k)]) := by
  refine ⟨by simpa using h.size, fun o => by rw [frozen_setCell, frozen_setCell]; exact h.frz o, fun o ho => ?_, fun i x hx => ?_⟩
  · obtain ⟨v, hv⟩ := h.all o ho
    obtain ⟨z, hz⟩ := setCell_there (o' := xs.length * 2) (v := .bool b) hv
    exact setCell_there hz
  · simp only [Nat.zero_add]
    by_cases hi : i < xs.length
    · rw [List.getElem?_append_left hi] at hx
      have := h.held i x hx
      simp only [Nat.zero_add] at this
      refine ⟨?_, ?_⟩
      · rw [setCell_other (by omega), setCell_other (by omega)]; exact this.1
      · rw [setCell_other (by omega), setCell_other (by omega)]; exact this.2
    · obtain rfl : i = xs.length := by
        have := (List.getElem?_eq_some_iff.1 hx).1
        simp at this; omega
      simp at hx
      subst hx
      obtain ⟨v0, h0⟩ := h.all (xs.length * 2) (by omega)
      obtain ⟨v1, h1⟩ := h.all (xs.length * 2 + 1) (by omega)
      obtain ⟨z, hz⟩ := setCell_there (o' := xs.length * 2) (v := .bool b) h1
      refine ⟨?_, World.cell?_setCell_same _ _ _ hz⟩
      rw [setCell_other (by omega)]
      exact World.cell?_setCell_same _ _ _ h0
theorem OwnRow.made (w : World) (n : Nat) (C : Array Value) (t : TypeId) (hC : C.size = n * 2) : OwnRow (w.alloc (.cells C t)) w.heap.size n [] :=
  ⟨by simp, fun o => by simp [go_sem], fun o ho => ⟨C[o]'(by omega), by rw [World.cell?_alloc_at C t _ o rfl]; simp⟩, fun i x hx => by simp at hx⟩
theorem take_snoc {α : Type} (xs : List α) (k : Nat) (h : k < xs.length) : xs.take (k + 1) = xs.take k ++ [xs[k]] := by
  rw [List.take_succ_eq_append_getElem h]
theorem OwnRow.next {w : World} {g n k : Nat} {xs : List V2} (h : OwnRow w g n (xs.take k)) (hk : k < xs.length) (hn : k < n) :
    OwnRow ((w.setCell ⟨g, k * 2, none⟩ (.bool xs[k].1)).setCell ⟨g, k * 2 + 1, none⟩ (.int .i64 xs[k].2)) g n (xs.take (k + 1)) := by
  have hl : (xs.take k).length = k := by simp; omega
  have := h.push (by omega) xs[k].1 xs[k].2
  rw [hl] at this
  rw [take_snoc xs k hk]
  exact this
end Go.Proofs.YtnchcndcinpalaaGreatDoor
namespace Go.Proofs.YtnchcndcinpalaaGreatDoor
open Go Go.RowKit
theorem make_vals (n : Nat) (hn : n ≤ 1048576) (w : World) :
    (Instr.makeSlice 150 (.int .i64 (n : Int)) (.int .i64 (n : Int))).run Tryz.prog w = .ok (.slice (some ⟨w.heap.size, 0, none⟩) n n) (w.alloc (.cells (madeCells #[.bool false, .int .i64 0] (n * 2)) 178)) := by
  obtain ⟨i, hi, hz⟩ := Option.map_eq_some_iff.1 (show (Tryz.prog.info? 178).map (fun i => (i.zero, i.size, i.bytes)) = some (some (.agg #[.bool false, .int .i64 0]), 2, 16) by kernel_rfl)
  simp only [Prod.mk.injEq] at hz
  have := run_make (P := Tryz.prog) w 150 178 i _ Tryz.underlying150 hi hz.1 .i64 .i64 (n : Int) (n : Int) (by omega) (by omega) (by rw [hz.2.2]; omega) (by omega)
  rw [hz.2.1] at this
  simpa [Value.cells] using this
theorem make_vals0 (w : World) : (Instr.makeSlice 150 (.int .i64 0) (.int .i64 0)).run Tryz.prog w = .ok (.slice (some ⟨w.heap.size, 0, none⟩) 0 0) (w.alloc (.cells #[] 178)) := by
  have := make_vals 0 (by omega) w
  rw [show madeCells #[.bool false, .int .i64 0] (0 * 2) = #[] from Array.eq_empty_of_size_eq_zero (by simp [size_madeCells])] at this
  simpa using this
set_option maxHeartbeats 1000000 in
theorem toValS_calls (v : Value) (xs : List V2) (w : World) (hv : IsRow w v xs) (hn : xs.length ≤ 1048576) :
    Calls Tryz.prog 121 #[v] w fun e w' => ∃ g, e = .returned (.slice (some ⟨g, 0, none⟩) xs.length xs.length) ∧ w.heap.size ≤ g ∧ OwnRow w' g xs.length xs ∧ Below w.heap.size w w' := by
  rcases hv with ⟨rfl, a, cap, rfl⟩ | ⟨g, off, cap, rfl, hcap, hg, hr⟩
  · have hmk := make_vals0
    clear hn
    go_enter Tryz.func121, Tryz.ntmps121
    go_wp2
    go_loopw [4] (fun i wr => i = .int .i64 0 ∧ OwnRow wr w.heap.size 0 [] ∧ Below w.heap.size w wr) (fun _ _ => 0)
    case atStart => exact ⟨rfl, OwnRow.made w 0 #[] _ rfl, bA (Below.refl _ _) _⟩
    case round =>
      obtain ⟨rfl, ho, hb⟩ := hrel
      go_wp2
      go_ret
      exact ⟨_, rfl, Nat.le_refl _, ho, hb⟩
  · have hmk := make_vals xs.length hn
    have hO : Hid (OwnRow (w.alloc (.cells (madeCells #[.bool false, .int .i64 0] (xs.length * 2)) 178)) w.heap.size xs.length []) := OwnRow.made w _ _ _ (by simp [size_madeCells])
    go_enter Tryz.func121, Tryz.ntmps121
    go_wp2
    go_loopw [4] (fun i wr => ∃ k : Nat, k ≤ xs.length ∧ i = .int .i64 k ∧ OwnRow wr w.heap.size xs.length (xs.take k) ∧ Below w.heap.size w wr) (fun i _ => xs.length - (intOf i).toNat)
    case atStart => exact ⟨0, Nat.zero_le _, rfl, by simpa using hO.out, bA (Below.refl _ _) _⟩
    case round =>
      clear hO hmk
      obtain ⟨k, hk, rfl, ho, hb⟩ := hrel
      by_cases hlt : k < xs.length
      · obtain ⟨e0, e1⟩ := (hr.of hg hb).at k hlt
        go_wp2_with fail
        refine (toVal_calls _ _ _).mono ?_; rintro e w1 ⟨rfl, hb1⟩
        have d1 := bT hb hb1
        have ho1 := ho.of hb1
        have hN : Hid (OwnRow ((w1.setCell ⟨w.heap.size, k * 2, none⟩ (.bool xs[k].1)).setCell ⟨w.heap.size, k * 2 + 1, none⟩ (.int .i64 xs[k].2)) w.heap.size xs.length (xs.take (k + 1))) := ho1.next hlt hlt
        obtain ⟨u0, hu0⟩ := ho1.all (k * 2) (by omega)
        obtain ⟨u1, hu1⟩ := ho1.all (k * 2 + 1) (by omega)
        have hf := ho1.frz
        clear ho ho1 hb1
        go_wp2
        go_roundw
        case rel => exact ⟨k + 1, by omega, by go_num, hN.out, (d1.setCell (Nat.le_refl _) _).setCell (Nat.le_refl _) _⟩
        case measure => simp [intOf]; omega
      · obtain rfl : k = xs.length := by omega
        rw [List.take_length] at ho
        go_wp2
        go_ret
        exact ⟨_, rfl, Nat.le_refl _, ho, hb⟩
theorem szValS_calls (v : Value) (xs : List V2) (left : Int) (w : World) (hv : IsRow w v xs) (hl : xs.length ≤ maxLen) (h0 : 0 ≤ left) (h1 : left ≤ 1048576) :
    Calls Tryz.prog 116 #[v, .int .i64 left] w fun e w' => e = .returned (.int .i64 (if left < xs.length then -1 else left - xs.length)) ∧ w' = w := by
  unfold maxLen at hl
  obtain ⟨a, cap, rfl⟩ : ∃ a cap, v = .slice a xs.length cap := by
    rcases hv with ⟨rfl, a, cap, rfl⟩ | ⟨g, off, cap, rfl, _⟩
    · exact ⟨a, cap, rfl⟩
    · exact ⟨_, cap, rfl⟩
  by_cases h : left < xs.length
  · rw [if_pos h]
    go_enter Tryz.func116, Tryz.ntmps116
    go_wp2
    go_ret
    exact ⟨rfl, rfl⟩
  · rw [if_neg h]
    go_enter Tryz.func116, Tryz.ntmps116
    go_wp2
    go_ret
    exact ⟨rfl, rfl⟩
end Go.Proofs.YtnchcndcinpalaaGreatDoor
namespace Go.Proofs.YtnchcndcinpalaaGreatDoor
open Go Go.RowKit
abbrev R3 : Type := Nat × Nat × List V2
abbrev kR (r : R3) : List V2 := r.2.2
def rv (r : R3) : Value := .slice (some ⟨r.1, 0, none⟩) r.2.2.length r.2.1
def GridAt (w : World) (G off : Nat) (rs : List R3) : Prop := ∀ i r, rs[i]? = some r → w.cell? ⟨G, off + i, none⟩ = some (rv r)
def RowsOk (w : World) (rs : List R3) : Prop := ∀ r ∈ rs, OwnRow w r.1 r.2.2.length r.2.2 ∧ r.2.2.length ≤ r.2.1
def IsRows (w : World) (v : Value) (xss : List (List V2)) : Prop :=
  (xss = [] ∧ ∃ a cap, v = .slice a 0 cap) ∨ ∃ g off cap, v = .slice (some ⟨g, off, none⟩) xss.length cap ∧ g < w.heap.size ∧ ∀ i xs, xss[i]? = some xs → ∃ u, w.cell? ⟨g, off + i, none⟩ = some u ∧ IsRow w u xs
theorem GridAt.of {w w1 : World} {G off : Nat} {rs : List R3} (h : GridAt w G off rs) (hG : G < w.heap.size) (hb : Below w.heap.size w w1) : GridAt w1 G off rs := fun i r hr => (hb.cell (p := ⟨G, off + i, none⟩) hG).trans (h i r hr)
theorem RowsOk.of {w w1 : World} {rs : List R3} (h : RowsOk w rs) (hb : Below w.heap.size w w1) : RowsOk w1 rs := fun r hr => ⟨(h r hr).1.of hb, (h r hr).2⟩
theorem IsRows.of {w w1 : World} {v : Value} {xss : List (List V2)} (h : IsRows w v xss) (hb : Below w.heap.size w w1) : IsRows w1 v xss := by
  rcases h with h | ⟨g, off, cap, h1, h2, h3⟩
  · exact Or.inl h
  · refine Or.inr ⟨g, off, cap, h1, Nat.lt_of_lt_of_le h2 hb.size, fun i xs hx => ?_⟩
    obtain ⟨u, hu, hr⟩ := h3 i xs hx
    exact ⟨u, (hb.cell (p := ⟨g, off + i, none⟩) h2).trans hu, hr.of hb⟩
theorem setCell_far {w : World} {g o G O : Nat} {v : Value} (h : G ≠ g) : (w.setCell ⟨G, O, none⟩ v).cell? ⟨g, o, none⟩ = w.cell? ⟨g, o, none⟩ :=
  World.cell?_setCell_other _ _ _ _ (by intro he; injection he; contradiction)
theorem OwnRow.far {w : World} {g n : Nat} {xs : List V2} (h : OwnRow w g n xs) {G O : Nat} (hne : G ≠ g) (v : Value) : OwnRow (w.setCell ⟨G, O, none⟩ v) g n xs :=
  ⟨by simpa using h.size, fun o => by rw [frozen_setCell]; exact h.frz o, fun o ho => by rw [setCell_far hne]; exact h.all o ho, fun i x hx => by rw [setCell_far hne, setCell_far hne]; exact h.held i x hx⟩
theorem RowsOk.far {w : World} {rs : List R3} (h : RowsOk w rs) {G O : Nat} (hne : ∀ r ∈ rs, G ≠ r.1) (v : Value) : RowsOk (w.setCell ⟨G, O, none⟩ v) rs := fun r hr => ⟨(h r hr).1.far (hne r hr) v, (h r hr).2⟩
structure OwnGrid (w : World) (G n : Nat) (rs : List R3) : Prop where
  size : G < w.heap.size
  frz : ∀ o, w.frozen? ⟨G, o, none⟩ = false
  all : ∀ o, o < n → ∃ v, w.cell? ⟨G, o, none⟩ = some v
  held : GridAt w G 0 rs
theorem OwnGrid.of {w w1 : World} {G n : Nat} {rs : List R3} (h : OwnGrid w G n rs) (hb : Below w.heap.size w w1) : OwnGrid w1 G n rs :=
  ⟨Nat.lt_of_lt_of_le h.size hb.size, fun o => (hb.frozen (p := ⟨G, o, none⟩) h.size).trans (h.frz o), fun o ho => by
    obtain ⟨v, hv⟩ := h.all o ho
    exact ⟨v, (hb.cell (p := ⟨G, o, none⟩) h.size).trans hv⟩, h.held.of h.size hb⟩
theorem OwnGrid.push {w : World} {G n : Nat} {rs : List R3} (h : OwnGrid w G n rs) (hn : rs.length < n) (r : R3) : OwnGrid (w.setCell ⟨G, rs.length, none⟩ (rv r)) G n (rs ++ [r]) := by
  refine ⟨by simpa using h.size, fun o => by rw [frozen_setCell]; exact h.frz o, fun o ho => ?_, fun i x hx => ?_⟩
  · obtain ⟨v, hv⟩ := h.all o ho
    exact setCell_there hv
  · simp only [Nat.zero_add]
    by_cases hi : i < rs.length
    · rw [List.getElem?_append_left hi] at hx
      rw [setCell_other (by omega)]
      have := h.held i x hx
      simpa using this
    · obtain rfl : i = rs.length := by
        have := (List.getElem?_eq_some_iff.1 hx).1
        simp at this; omega
      simp at hx
      subst hx
      obtain ⟨v0, h0⟩ := h.all rs.length hn
      exact World.cell?_setCell_same _ _ _ h0
theorem OwnGrid.made (w : World) (n : Nat) (C : Array Value) (t : TypeId) (hC : C.size = n) : OwnGrid (w.alloc (.cells C t)) w.heap.size n [] :=
  ⟨by simp, fun o => by simp [go_sem], fun o ho => ⟨C[o]'(by omega), by rw [World.cell?_alloc_at C t _ o rfl]; simp⟩, fun i x hx => by simp at hx⟩
def bulk : List (List V2) → Nat
  | [] => 0
  | xs :: r => xs.length + bulk r
theorem bulk_append (a b : List (List V2)) : bulk (a ++ b) = bulk a + bulk b := by
  induction a with
  | nil => simp [bulk]
  | cons x a ih => simp only [List.cons_append, bulk, ih]; omega
theorem bulk_take (xss : List (List V2)) (k : Nat) (hk : k < xss.length) : bulk (xss.take (k + 1)) = bulk (xss.take k) + xss[k].length := by
  rw [take_snoc xss k hk, bulk_append]; simp [bulk]
theorem bulk_take_le (xss : List (List V2)) (k : Nat) : bulk (xss.take k) ≤ bulk xss := by
  have := bulk_append (xss.take k) (xss.drop k)
  rw [List.take_append_drop] at this
  omega
theorem bulk_mem {xss : List (List V2)} {xs : List V2} (h : xs ∈ xss) : xs.length ≤ bulk xss := by
  induction xss with
  | nil => cases h
  | cons x r ih =>
    simp only [bulk]
    cases List.mem_cons.1 h with
    | inl e => subst e; omega
    | inr e => have := ih e; omega
end Go.Proofs.YtnchcndcinpalaaGreatDoor
namespace Go.Proofs.YtnchcndcinpalaaGreatDoor
open Go Go.RowKit
structure Tb where
  Name : ByteArray
  Cols : Int
  Rows : List (List V2)
def IsTables (w : World) (v : Value) (ts : List Tb) : Prop :=
  (ts = [] ∧ ∃ a cap, v = .slice a 0 cap) ∨ ∃ g off cap, v = .slice (some ⟨g, off, none⟩) ts.length cap ∧ g < w.heap.size ∧
    ∀ i t, ts[i]? = some t → w.cell? ⟨g, off + i * 3, none⟩ = some (.string t.Name) ∧ w.cell? ⟨g, off + i * 3 + 1, none⟩ = some (.int .i64 t.Cols) ∧
      ∃ u, w.cell? ⟨g, off + i * 3 + 2, none⟩ = some u ∧ IsRows w u t.Rows
theorem IsTables.of {w w1 : World} {v : Value} {ts : List Tb} (h : IsTables w v ts) (hb : Below w.heap.size w w1) : IsTables w1 v ts := by
  rcases h with h | ⟨g, off, cap, h1, h2, h3⟩
  · exact Or.inl h
  · refine Or.inr ⟨g, off, cap, h1, Nat.lt_of_lt_of_le h2 hb.size, fun i t ht => ?_⟩
    obtain ⟨c0, c1, u, c2, hu⟩ := h3 i t ht
    exact ⟨(hb.cell (p := ⟨g, off + i * 3, none⟩) h2).trans c0, (hb.cell (p := ⟨g, off + i * 3 + 1, none⟩) h2).trans c1, u, (hb.cell (p := ⟨g, off + i * 3 + 2, none⟩) h2).trans c2, hu.of hb⟩
def MadeRows (w : World) (g G : Nat) (xss : List (List V2)) : Prop :=
  g < G ∧ G < w.heap.size ∧ ∃ rs : List R3, rs.map (fun r : R3 => r.2.2) = xss ∧ GridAt w G 0 rs ∧ RowsOk w rs ∧ ∀ r ∈ rs, G < r.1
theorem MadeRows.of {w w1 : World} {g G : Nat} {xss : List (List V2)} (h : MadeRows w g G xss) (hb : Below w.heap.size w w1) : MadeRows w1 g G xss := by
  obtain ⟨h1, h2, rs, h3, h4, h5, h6⟩ := h
  exact ⟨h1, Nat.lt_of_lt_of_le h2 hb.size, rs, h3, h4.of h2 hb, h5.of hb, h6⟩
theorem GridAt.far {w : World} {G off : Nat} {rs : List R3} (h : GridAt w G off rs) {X O : Nat} (hne : X ≠ G) (v : Value) : GridAt (w.setCell ⟨X, O, none⟩ v) G off rs := fun i r hr => by
  rw [setCell_far hne]
  exact h i r hr
theorem MadeRows.far {w : World} {g G : Nat} {xss : List (List V2)} (h : MadeRows w g G xss) {X O : Nat} (hX : X ≤ g) (v : Value) : MadeRows (w.setCell ⟨X, O, none⟩ v) g G xss := by
  obtain ⟨h1, h2, rs, h3, h4, h5, h6⟩ := h
  exact ⟨h1, by simpa using h2, rs, h3, h4.far (by omega) v, h5.far (fun r hr => by have := h6 r hr; omega) v, h6⟩
def TablesAt (w : World) (g off : Nat) (ts : List Tb) : Prop := ∀ i t, ts[i]? = some t → w.cell? ⟨g, off + i * 3, none⟩ = some (.string t.Name) ∧ w.cell? ⟨g, off + i * 3 + 1, none⟩ = some (.int .i64 t.Cols) ∧
  ∃ G, w.cell? ⟨g, off + i * 3 + 2, none⟩ = some (.slice (some ⟨G, 0, none⟩) t.Rows.length t.Rows.length) ∧ MadeRows w g G t.Rows
theorem TablesAt.of {w w1 : World} {g off : Nat} {ts : List Tb} (h : TablesAt w g off ts) (hg : g < w.heap.size) (hb : Below w.heap.size w w1) : TablesAt w1 g off ts := fun i t ht => by
  obtain ⟨c0, c1, G, c2, hG⟩ := h i t ht
  exact ⟨(hb.cell (p := ⟨g, off + i * 3, none⟩) hg).trans c0, (hb.cell (p := ⟨g, off + i * 3 + 1, none⟩) hg).trans c1, G, (hb.cell (p := ⟨g, off + i * 3 + 2, none⟩) hg).trans c2, hG.of hb⟩
theorem TablesAt.at {w : World} {g off : Nat} {ts : List Tb} (h : TablesAt w g off ts) (i : Nat) (hi : i < ts.length) : w.cell? ⟨g, off + i * 3, none⟩ = some (.string (ts[i]).Name) ∧ w.cell? ⟨g, off + i * 3 + 1, none⟩ = some (.int .i64 (ts[i]).Cols) ∧
  ∃ G, w.cell? ⟨g, off + i * 3 + 2, none⟩ = some (.slice (some ⟨G, 0, none⟩) (ts[i]).Rows.length (ts[i]).Rows.length) ∧ MadeRows w g G (ts[i]).Rows := h i ts[i] (by simp [hi])
theorem TablesAt.far {w : World} {g off : Nat} {ts : List Tb} (h : TablesAt w g off ts) {X O : Nat} (hX : X < g) (v : Value) : TablesAt (w.setCell ⟨X, O, none⟩ v) g off ts := fun i t ht => by
  obtain ⟨c0, c1, G, c2, hG⟩ := h i t ht
  refine ⟨?_, ?_, G, ?_, hG.far (Nat.le_of_lt hX) v⟩
  · rw [setCell_far (by omega)]; exact c0
  · rw [setCell_far (by omega)]; exact c1
  · rw [setCell_far (by omega)]; exact c2
theorem MadeRows.row {w : World} {g G : Nat} {xss : List (List V2)} (h : MadeRows w g G xss) (i : Nat) (hi : i < xss.length) : ∃ r : R3, w.cell? ⟨G, i, none⟩ = some (rv r) ∧ r.2.2 = xss[i] ∧ RowAt w r.1 0 r.2.2 ∧ r.1 < w.heap.size ∧ G < r.1 ∧ r.2.2.length ≤ r.2.1 := by
  obtain ⟨h1, h2, rs, h3, h4, h5, h6⟩ := h
  have hl : rs.length = xss.length := by rw [← h3]; simp
  have hi' : i < rs.length := by omega
  have hm : rs[i] ∈ rs := List.getElem_mem hi'
  refine ⟨rs[i], ?_, ?_, (h5 _ hm).1.held, (h5 _ hm).1.size, h6 _ hm, (h5 _ hm).2⟩
  · have := h4 i rs[i] (List.getElem?_eq_getElem hi')
    simpa using this
  · have : (rs.map (fun r : R3 => r.2.2))[i]'(by simpa using hi') = xss[i] := by simp only [h3]
    simpa using this
structure OwnTables (w : World) (g n : Nat) (ts : List Tb) : Prop where
  size : g < w.heap.size
  frz : ∀ o, w.frozen? ⟨g, o, none⟩ = false
  all : ∀ o, o < n * 3 → ∃ v, w.cell? ⟨g, o, none⟩ = some v
  held : TablesAt w g 0 ts
theorem OwnTables.of {w w1 : World} {g n : Nat} {ts : List Tb} (h : OwnTables w g n ts) (hb : Below w.heap.size w w1) : OwnTables w1 g n ts :=
  ⟨Nat.lt_of_lt_of_le h.size hb.size, fun o => (hb.frozen (p := ⟨g, o, none⟩) h.size).trans (h.frz o), fun o ho => by
    obtain ⟨v, hv⟩ := h.all o ho
    exact ⟨v, (hb.cell (p := ⟨g, o, none⟩) h.size).trans hv⟩, h.held.of h.size hb⟩
theorem OwnTables.made (w : World) (n : Nat) (C : Array Value) (t : TypeId) (hC : C.size = n * 3) : OwnTables (w.alloc (.cells C t)) w.heap.size n [] :=
  ⟨by simp, fun o => by simp [go_sem], fun o ho => ⟨C[o]'(by omega), by rw [World.cell?_alloc_at C t _ o rfl]; simp⟩, fun i x hx => by simp at hx⟩
def putTable (w : World) (g o : Nat) (t : Tb) (G : Nat) : World :=
  ((w.setCell ⟨g, o, none⟩ (.string t.Name)).setCell ⟨g, o + 1, none⟩ (.int .i64 t.Cols)).setCell ⟨g, o + 2, none⟩ (.slice (some ⟨G, 0, none⟩) t.Rows.length t.Rows.length)
theorem putTable_below {w0 w : World} {s : Nat} (h : Below s w0 w) {g o : Nat} (hg : s ≤ g) (t : Tb) (G : Nat) : Below s w0 (putTable w g o t G) :=
  ((h.setCell (p := ⟨g, o, none⟩) hg _).setCell (p := ⟨g, o + 1, none⟩) hg _).setCell (p := ⟨g, o + 2, none⟩) hg _
theorem OwnTables.put {w : World} {g n k : Nat} {ts : List Tb} (h : OwnTables w g n (ts.take k)) (hk : k < ts.length) (hn : k < n) (G : Nat) (hG : MadeRows w g G (ts[k]).Rows) :
    OwnTables (putTable w g (k * 3) ts[k] G) g n (ts.take (k + 1)) := by
  refine ⟨by simpa [putTable] using h.size, fun o => by unfold putTable; simp only [frozen_setCell]; exact h.frz o, fun o ho => ?_, fun i x hx => ?_⟩
  · obtain ⟨v, hv⟩ := h.all o ho
    unfold putTable
    obtain ⟨v, hv⟩ := setCell_there (o' := k * 3) (v := .string (ts[k]).Name) hv
    obtain ⟨v, hv⟩ := setCell_there (o' := k * 3 + 1) (v := .int .i64 (ts[k]).Cols) hv
    exact setCell_there hv
  · rw [take_snoc ts k hk] at hx
    have hl : (ts.take k).length = k := by simp; omega
    unfold putTable
    by_cases hi : i < k
    · rw [List.getElem?_append_left (by omega)] at hx
      obtain ⟨c0, c1, G', c2, hG'⟩ := h.held i x hx
      refine ⟨?_, ?_, G', ?_, ((hG'.far (Nat.le_refl _) _).far (Nat.le_refl _) _).far (Nat.le_refl _) _⟩
      · rw [setCell_other (by omega), setCell_other (by omega), setCell_other (by omega)]; exact c0
      · rw [setCell_other (by omega), setCell_other (by omega), setCell_other (by omega)]; exact c1
      · rw [setCell_other (by omega), setCell_other (by omega), setCell_other (by omega)]; exact c2
    · obtain rfl : i = k := by
        have := (List.getElem?_eq_some_iff.1 hx).1
        simp at this; omega
      rw [List.getElem?_append_right (by omega)] at hx
      simp [hl] at hx
      subst hx
      simp only [Nat.zero_add]
      obtain ⟨v0, c0⟩ := h.all (i * 3) (by omega)
      obtain ⟨v1, c1⟩ := h.all (i * 3 + 1) (by omega)
      obtain ⟨v2, c2⟩ := h.all (i * 3 + 2) (by omega)
      refine ⟨?_, ?_, G, ?_, ((hG.far (Nat.le_refl _) _).far (Nat.le_refl _) _).far (Nat.le_refl _) _⟩
      · rw [setCell_other (by omega), setCell_other (by omega)]; exact World.cell?_setCell_same _ _ _ c0
      · rw [setCell_other (by omega)]; exact World.cell?_setCell_same _ _ _ (by rw [setCell_other (by omega)]; exact c1)
      · exact World.cell?_setCell_same _ _ _ (by rw [setCell_other (by omega), setCell_other (by omega)]; exact c2)
def bulkT : List Tb → Nat
  | [] => 0
  | t :: r => t.Name.size + (t.Rows.length + bulk t.Rows) + bulkT r
theorem bulkT_append (a b : List Tb) : bulkT (a ++ b) = bulkT a + bulkT b := by
  induction a with
  | nil => simp [bulkT]
  | cons x a ih => simp only [List.cons_append, bulkT, ih]; omega
theorem bulkT_take (ts : List Tb) (k : Nat) (hk : k < ts.length) : bulkT (ts.take (k + 1)) = bulkT (ts.take k) + ((ts[k]).Name.size + ((ts[k]).Rows.length + bulk (ts[k]).Rows)) := by
  rw [take_snoc ts k hk, bulkT_append]; simp [bulkT]
theorem bulkT_take_le (ts : List Tb) (k : Nat) : bulkT (ts.take k) ≤ bulkT ts := by
  have := bulkT_append (ts.take k) (ts.drop k)
  rw [List.take_append_drop] at this
  omega
theorem bulkT_mem {ts : List Tb} {t : Tb} (h : t ∈ ts) : t.Name.size + (t.Rows.length + bulk t.Rows) ≤ bulkT ts := by
  induction ts with
  | nil => cases h
  | cons x r ih =>
    simp only [bulkT]
    cases List.mem_cons.1 h with
    | inl e => subst e; omega
    | inr e => have := ih e; omega
end Go.Proofs.YtnchcndcinpalaaGreatDoor
namespace Go.Proofs.YtnchcndcinpalaaGreatDoor
open Go Go.RowKit
theorem letter_calls (c : Int) (w : World) : Calls Tryz.prog 127 #[.int .u8 c] w fun e w' => e = .returned (.bool (letter c)) ∧ w' = w := by
  by_cases h1 : 65 ≤ c
  · by_cases h2 : c ≤ 90
    · have HE : Hid (letter c = true) := by show _ = _; simp [letter, h1, h2]
      go_enter Tryz.func127, Tryz.ntmps127
      go_wp2
      go_ret
      exact ⟨congrArg (fun z => Ending.returned (.bool z)) HE.out.symm, rfl⟩
    · by_cases h3 : 97 ≤ c
      · have HE : Hid (letter c = decide (c ≤ 122)) := by show _ = _; simp [letter, h2, h3]
        go_enter Tryz.func127, Tryz.ntmps127
        go_wp2
        go_ret
        exact ⟨congrArg (fun z => Ending.returned (.bool z)) HE.out.symm, rfl⟩
      · have HE : Hid (letter c = false) := by show _ = _; simp [letter, h2, h3]
        go_enter Tryz.func127, Tryz.ntmps127
        go_wp2
        go_ret
        exact ⟨congrArg (fun z => Ending.returned (.bool z)) HE.out.symm, rfl⟩
  · have h3 : ¬ 97 ≤ c := by omega
    have HE : Hid (letter c = false) := by show _ = _; simp [letter, h1, h3]
    go_enter Tryz.func127, Tryz.ntmps127
    go_wp2
    go_ret
    exact ⟨congrArg (fun z => Ending.returned (.bool z)) HE.out.symm, rfl⟩
theorem digit_calls (c : Int) (w : World) : Calls Tryz.prog 128 #[.int .u8 c] w fun e w' => e = .returned (.bool (digit c)) ∧ w' = w := by
  by_cases h1 : 48 ≤ c
  · have HE : Hid (digit c = decide (c ≤ 57)) := by show _ = _; simp [digit, h1]
    go_enter Tryz.func128, Tryz.ntmps128
    go_wp2
    go_ret
    exact ⟨congrArg (fun z => Ending.returned (.bool z)) HE.out.symm, rfl⟩
  · have HE : Hid (digit c = false) := by show _ = _; simp [digit, h1]
    go_enter Tryz.func128, Tryz.ntmps128
    go_wp2
    go_ret
    exact ⟨congrArg (fun z => Ending.returned (.bool z)) HE.out.symm, rfl⟩
theorem isLetter_calls (c : Int) (w : World) : Calls Tryz.prog 131 #[.int .u8 c] w fun e w' => e = .returned (.bool (letter c)) ∧ w' = w := by
  by_cases h1 : 65 ≤ c
  · by_cases h2 : c ≤ 90
    · have HE : Hid (letter c = true) := by show _ = _; simp [letter, h1, h2]
      go_enter Tryz.func131, Tryz.ntmps131
      go_wp2
      go_ret
      exact ⟨congrArg (fun z => Ending.returned (.bool z)) HE.out.symm, rfl⟩
    · by_cases h3 : 97 ≤ c
      · have HE : Hid (letter c = decide (c ≤ 122)) := by show _ = _; simp [letter, h2, h3]
        go_enter Tryz.func131, Tryz.ntmps131
        go_wp2
        go_ret
        exact ⟨congrArg (fun z => Ending.returned (.bool z)) HE.out.symm, rfl⟩
      · have HE : Hid (letter c = false) := by show _ = _; simp [letter, h2, h3]
        go_enter Tryz.func131, Tryz.ntmps131
        go_wp2
        go_ret
        exact ⟨congrArg (fun z => Ending.returned (.bool z)) HE.out.symm, rfl⟩
  · have h3 : ¬ 97 ≤ c := by omega
    have HE : Hid (letter c = false) := by show _ = _; simp [letter, h1, h3]
    go_enter Tryz.func131, Tryz.ntmps131
    go_wp2
    go_ret
    exact ⟨congrArg (fun z => Ending.returned (.bool z)) HE.out.symm, rfl⟩
theorem isDigit_calls (c : Int) (w : World) : Calls Tryz.prog 137 #[.int .u8 c] w fun e w' => e = .returned (.bool (digit c)) ∧ w' = w := by
  by_cases h1 : 48 ≤ c
  · have HE : Hid (digit c = decide (c ≤ 57)) := by show _ = _; simp [digit, h1]
    go_enter Tryz.func137, Tryz.ntmps137
    go_wp2
    go_ret
    exact ⟨congrArg (fun z => Ending.returned (.bool z)) HE.out.symm, rfl⟩
  · have HE : Hid (digit c = false) := by show _ = _; simp [digit, h1]
    go_enter Tryz.func137, Tryz.ntmps137
    go_wp2
    go_ret
    exact ⟨congrArg (fun z => Ending.returned (.bool z)) HE.out.symm, rfl⟩
theorem isWordPart_calls (c : Int) (w : World) : Calls Tryz.prog 133 #[.int .u8 c] w fun e w' => e = .returned (.bool (part c)) ∧ w' = w := by
  have L := fun w => isLetter_calls c w
  have D := fun w => isDigit_calls c w
  have HE : Hid (part c = (letter c || digit c || decide (c = 95))) := rfl
  generalize letter c = l at *
  generalize digit c = d at *
  have HL := hide L; have HD := hide D
  clear L D
  cases l
  · cases d
    · by_cases h : c = 95
      · subst h
        go_enter Tryz.func133, Tryz.ntmps133
        go_wp2_with fail
        refine (unhide HL _).mono ?_; rintro e w1 ⟨rfl, rfl⟩
        go_wp2_with fail
        refine (unhide HD _).mono ?_; rintro e w1 ⟨rfl, rfl⟩
        go_wp2
        go_ret
        exact ⟨congrArg (fun z => Ending.returned (.bool z)) HE.out.symm, rfl⟩
      · have h' : (c == 95) = false := beq_eq_false_iff_ne.2 h
        have HE' : Hid (part c = false) := by show _ = _; rw [HE.out]; simp [h]
        clear HE
        go_enter Tryz.func133, Tryz.ntmps133
        go_wp2_with fail
        refine (unhide HL _).mono ?_; rintro e w1 ⟨rfl, rfl⟩
        go_wp2_with fail
        refine (unhide HD _).mono ?_; rintro e w1 ⟨rfl, rfl⟩
        go_wp2
        go_ret
        exact ⟨congrArg (fun z => Ending.returned (.bool z)) HE'.out.symm, rfl⟩
    · have HE' : Hid (part c = true) := by show _ = _; rw [HE.out]; simp
      clear HE
      go_enter Tryz.func133, Tryz.ntmps133
      go_wp2_with fail
      refine (unhide HL _).mono ?_; rintro e w1 ⟨rfl, rfl⟩
      go_wp2_with fail
      refine (unhide HD _).mono ?_; rintro e w1 ⟨rfl, rfl⟩
      go_wp2
      go_ret
      exact ⟨congrArg (fun z => Ending.returned (.bool z)) HE'.out.symm, rfl⟩
  · have HE' : Hid (part c = true) := by show _ = _; rw [HE.out]; simp
    clear HE
    go_enter Tryz.func133, Tryz.ntmps133
    go_wp2_with fail
    refine (unhide HL _).mono ?_; rintro e w1 ⟨rfl, rfl⟩
    go_wp2
    go_ret
    exact ⟨congrArg (fun z => Ending.returned (.bool z)) HE'.out.symm, rfl⟩
end Go.Proofs.YtnchcndcinpalaaGreatDoor
