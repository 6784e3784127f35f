import Derived.Test.YtnchcndcinpalaaGreatDoorQ4
import Derived.Deep.SlicePairs
import Derived.ProofKit
import Derived.OpenShut
import Derived.Test.YtnchcndcinpalaaGreatDoorQ46
import Derived.Deep.Slices
import Derived.Test.YtnchcndcinpalaaGreatDoorQ1
import Derived.Test.YtnchcndcinpalaaGreatDoorQ44
import Derived.Test.YtnchcndcinpalaaGreatDoorCards
import Derived.Test.YtnchcndcinpalaaGreatDoorTie
import Derived.Test.YtnchcndcinpalaaGreatDoorQ0
import Derived.Test.YtnchcndcinpalaaGreatDoorLawUnnestW
import Derived.Stop.Joined
import Derived.Lib.SmallJoins
namespace Go.Proofs.YtnchcndcinpalaaGreatDoor
open Go Go.RowKit Go.Deep Go.WideShapes
theorem row_of_cells {H : Type} {enc : TypeId × Value → H} {w : World} {cs : List Value} {fuel : Nat} {x : DataW H × List MemPlace}
    (h : DataW.trod enc Tryz.prog w 0 (fun _ => true) true fuel 170 cs = some x) : ∃ v xs, cs = [v] ∧ IsRow w v xs ∧ xs.length ≤ maxLen := by
  rcases open_slice_pairs (t := 170) (e := 182) Tryz.underlying170 Tryz.underlying182 (by kernel_rfl) (by kernel_rfl) (by kernel_rfl) (by kernel_rfl) (by kernel_rfl) h with
    ⟨rfl, _⟩ | ⟨a, len, cap, m, n, V0, V1, D0, D1, P0, P1, rfl, _, hl, hm, hmm, _, hc⟩
  · exact ⟨_, [], rfl, Or.inl ⟨rfl, none, 0, rfl⟩, by simp⟩
  simp only [if_true] at hmm
  subst hmm
  have each : ∀ i, i < len → ∃ x : V2, w.cell? (a.add (i * 2)) = some (.bool x.1) ∧ w.cell? (a.add (i * 2 + 1)) = some (.int .i64 x.2) := fun i hi => by
    obtain ⟨h1, h2, h3, h4⟩ := hc i (by omega)
    obtain ⟨b, e0, _⟩ := DataW.trod_bool Tryz.underlying4 h3
    obtain ⟨z, e1, _, _⟩ := DataW.trod_int Tryz.underlying2 h4
    simp only [List.cons.injEq, and_true] at e0 e1
    exact ⟨(b, z), by rw [h1, e0], by rw [h2, e1]⟩
  obtain ⟨f, hf⟩ := choose_lt each
  by_cases h0 : len = 0
  · subst h0
    exact ⟨_, [], rfl, Or.inl ⟨rfl, _, m, rfl⟩, by simp⟩
  obtain ⟨g, off, spot⟩ := a
  have hspot : spot = none := by simpa [Addr.add] using World.cell?_spot (hf 0 (by omega)).1
  subst hspot
  refine ⟨_, (List.range len).map f, rfl, Or.inr ⟨g, off, m, by simp, by simpa using hl, ?_, ?_⟩, by simp; omega⟩
  · exact World.block_lt_of_cell? w ⟨g, off + 0 * 2, none⟩ (by have := (hf 0 (by omega)).1; rw [add_plain] at this; exact this)
  · intro i x hx
    have hi : i < len := by have := (List.getElem?_eq_some_iff.1 hx).1; simpa using this
    have e : f i = x := by simpa [hi] using hx
    have := hf i hi
    rw [e, add_plain, add_plain] at this
    exact ⟨this.1, by rw [← this.2]; rfl⟩
end Go.Proofs.YtnchcndcinpalaaGreatDoor
namespace Go.Proofs.YtnchcndcinpalaaGreatDoor
open Go Go.RowKit Go.Deep Go.WideShapes Go.ChangeShapes
theorem add_plainT (g off i : Nat) : (⟨g, off, none⟩ : Addr).add i = ⟨g, off + i, none⟩ := by
  unfold Addr.add
  by_cases h : i = 0 <;> simp [h]
theorem threeT {α : Type} : ∀ {l : List α}, l.length = 3 → ∃ a b c, l = [a, b, c]
  | [a, b, c], _ => ⟨a, b, c, rfl⟩
theorem oneT {α : Type} : ∀ {l : List α}, l.length = 1 → ∃ a, l = [a]
  | [a], _ => ⟨a, rfl⟩
theorem rows_of_cells {H : Type} {enc : TypeId × Value → H} {w : World} {cs : List Value} {fuel : Nat} {x : DataW H × List MemPlace}
    (hf : DataW.trod enc Tryz.prog w 0 (fun _ => true) true fuel 102 cs = some x) : ∃ v xss, cs = [v] ∧ IsRows w v xss ∧ xss.length ≤ maxLen ∧ ∀ xs ∈ xss, xs.length ≤ maxLen := by
  rcases open_slice1 (t := 102) (e := 170) Tryz.underlying102 (by kernel_rfl) hf with ⟨rfl, _⟩ | ⟨a, len, cap, m, n, V, D, Pl, rfl, _, hl, hm, hmm, _, hc⟩
  · exact ⟨_, [], rfl, Or.inl ⟨rfl, none, 0, rfl⟩, by simp, by simp⟩
  simp only [if_true] at hmm
  subst hmm
  have each : ∀ i, i < len → ∃ xs : List V2, (∃ u, w.cell? (a.add i) = some u ∧ IsRow w u xs) ∧ xs.length ≤ maxLen := fun i hi => by
    obtain ⟨h1, h2⟩ := hc i (by omega)
    obtain ⟨u, xs, e1, e2, e3⟩ := row_of_cells h2
    simp only [List.cons.injEq, and_true] at e1
    exact ⟨xs, ⟨u, by rw [h1, e1], e2⟩, e3⟩
  obtain ⟨f, hf⟩ := choose_lt each
  have hb : ∀ xs ∈ (List.range len).map f, xs.length ≤ maxLen := fun xs hx => by
    obtain ⟨i, hi, rfl⟩ := List.mem_map.1 hx
    exact (hf i (List.mem_range.1 hi)).2
  by_cases h0 : len = 0
  · subst h0
    exact ⟨_, [], rfl, Or.inl ⟨rfl, _, m, rfl⟩, by simp, by simp⟩
  obtain ⟨g, off, spot⟩ := a
  obtain ⟨⟨u0, hu0, _⟩, _⟩ := hf 0 (by omega)
  have hspot : spot = none := by simpa [Addr.add] using World.cell?_spot hu0
  subst hspot
  refine ⟨_, (List.range len).map f, rfl, Or.inr ⟨g, off, m, by simp, ?_, ?_⟩, by simp; omega, hb⟩
  · exact World.block_lt_of_cell? w ⟨g, off + 0, none⟩ (by rw [add_plainT] at hu0; exact hu0)
  · intro i xs hx
    have hi : i < len := by have := (List.getElem?_eq_some_iff.1 hx).1; simpa using this
    have e : f i = xs := by simpa [hi] using hx
    obtain ⟨⟨u, hu, hr⟩, _⟩ := hf i hi
    rw [add_plainT] at hu
    exact ⟨u, hu, by rw [← e]; exact hr⟩
set_option maxRecDepth 100000 in
theorem tables_of_cells {H : Type} {enc : TypeId × Value → H} {w : World} {cs : List Value} {fuel : Nat} {x : DataW H × List MemPlace}
    (h : DataW.trod enc Tryz.prog w 0 (fun _ => true) true fuel 25 cs = some x) : ∃ v ts, cs = [v] ∧ IsTables w v ts ∧ ts.length ≤ maxLen ∧ FitsT ts := by
  have ce : Tryz.prog.cellsOf 104 = 3 := by kernel_rfl
  have ci : Tryz.prog.cellsOf 3 = 1 := by kernel_rfl
  have cS : Tryz.prog.cellsOf 9 = 1 := by kernel_rfl
  have cR : Tryz.prog.cellsOf 102 = 1 := by kernel_rfl
  rcases open_slice Tryz.underlying25 h with ⟨rfl, _⟩ | ⟨a, len, cap, m, n, D, Pl, rfl, _, hl, hm, hmm, _, hx⟩
  · exact ⟨_, [], rfl, Or.inl ⟨rfl, none, 0, rfl⟩, by simp, fun n hn => by simp at hn⟩
  simp only [if_true] at hmm
  subst hmm
  have each : ∀ i, i < len → ∃ tb : Tb, (w.cell? (a.add (i * 3)) = some (.string tb.Name) ∧ w.cell? (a.add (i * 3 + 1)) = some (.int .i64 tb.Cols) ∧ ∃ u, w.cell? (a.add (i * 3 + 2)) = some u ∧ IsRows w u tb.Rows) ∧
      tb.Name.size ≤ maxLen ∧ tb.Rows.length ≤ maxLen ∧ ∀ xs ∈ tb.Rows, xs.length ≤ maxLen := fun i hi => by
    obtain ⟨cs', h1, h2⟩ := hx i (by omega)
    rw [ce] at h1
    obtain ⟨_, hlen, hcell⟩ := World.cells?_some h1
    obtain ⟨xs, k, hk, hxy, _, hxl, hf⟩ := DataW.trod_struct Tryz.underlying104 h2
    obtain ⟨y0, y1, y2, rfl⟩ := threeT (show xs.length = 3 from hxl)
    obtain ⟨v0, v1, v2, rfl⟩ := threeT hlen
    have g0 := hf 0 _ rfl
    have g1 := hf 1 _ rfl
    have g2 := hf 2 _ rfl
    simp [ci, cS, cR] at g0 g1 g2
    have e0 := hcell 0 (by omega)
    have e1 := hcell 1 (by omega)
    have e2 := hcell 2 (by omega)
    rw [add_add] at e0 e1 e2
    obtain ⟨s0, q0, _, b0⟩ := DataW.trod_string Tryz.underlying9 g0
    obtain ⟨z1, q1, _, _⟩ := DataW.trod_int Tryz.underlying3 g1
    obtain ⟨u, xss, q2, hu, hkl, hkx⟩ := rows_of_cells g2
    simp only [List.cons.injEq, and_true] at q0 q1 q2
    subst q0 q1 q2
    exact ⟨⟨s0, z1, xss⟩, ⟨by simpa using e0, by simpa using e1, _, by simpa using e2, hu⟩, b0, hkl, hkx⟩
  obtain ⟨f, hf⟩ := @choose_lt Tb ⟨⟨ByteArray.empty, 0, []⟩⟩ _ _ each
  by_cases h0 : len = 0
  · subst h0
    exact ⟨_, [], rfl, Or.inl ⟨rfl, _, _, rfl⟩, by simp, fun n hn => by simp at hn⟩
  obtain ⟨g, off, spot⟩ := a
  have hspot : spot = none := by simpa [Addr.add] using World.cell?_spot (hf 0 (by omega)).1.1
  subst hspot
  refine ⟨_, (List.range len).map f, rfl, Or.inr ⟨g, off, m, by simp, ?_, ?_⟩, by simp; omega, fun n hn => ?_⟩
  · exact World.block_lt_of_cell? w ⟨g, off + 0 * 3, none⟩ (by have := (hf 0 (by omega)).1.1; rw [add_plainT] at this; exact this)
  · intro i tb hx'
    have hi : i < len := by have := (List.getElem?_eq_some_iff.1 hx').1; simpa using this
    have e : f i = tb := by simpa [hi] using hx'
    obtain ⟨⟨d0, d1, u, d2, hu⟩, _⟩ := hf i hi
    rw [e] at d0 d1 hu
    rw [add_plainT] at d0 d1 d2
    exact ⟨d0, d1, u, d2, hu⟩
  · obtain ⟨i, hi, rfl⟩ := List.mem_map.1 hn
    exact (hf i (List.mem_range.1 hi)).2
set_option maxRecDepth 100000 in
theorem open_db {H : Type} {enc : TypeId × Value → H} {w : World} {base : Nat} {v : Value} {d : DataW H} {p : List MemPlace} (hv : Value.okWide Tryz.prog w .any base 27 v)
    (h : DataW.Trod enc Tryz.prog w 0 (fun _ => true) true 27 v d p) : ∃ u ts, v = .agg #[u] ∧ IsTables w u ts ∧ ts.length ≤ maxLen ∧ FitsT ts := by
  have cA : Tryz.prog.cellsOf 27 = 1 := by kernel_rfl
  have cN : Tryz.prog.cellsOf 25 = 1 := by kernel_rfl
  obtain ⟨cs, rfl, hsz⟩ := okWide_struct Tryz.underlying27 hv
  obtain ⟨fuel, hf⟩ := h
  obtain ⟨xs, k, hk, hxy, hl, hxl, hfs⟩ := DataW.trod_struct Tryz.underlying27 hf
  obtain ⟨y0, rfl⟩ := oneT (show xs.length = 1 from hxl)
  have g0 := hfs 0 _ rfl
  simp [cN, Value.cells] at g0
  obtain ⟨u, ts, e, h1, h2, h3⟩ := tables_of_cells g0
  rw [cA] at hsz
  obtain ⟨c, hc⟩ := oneT (show cs.toList.length = 1 by simpa using hsz)
  have e2 : cs = #[u] := by
    apply Array.ext'
    rw [hc] at e ⊢
    simpa using e
  exact ⟨u, ts, by rw [e2], h1, h2, h3⟩
end Go.Proofs.YtnchcndcinpalaaGreatDoor
namespace Go.Proofs.YtnchcndcinpalaaGreatDoor
open Go Go.RowKit Go.Deep Go.WideShapes
theorem ops_of_cells {H : Type} {enc : TypeId × Value → H} {w : World} {cs : List Value} {fuel : Nat} {x : DataW H × List MemPlace}
    (h : DataW.trod enc Tryz.prog w 0 (fun _ => true) true fuel 97 cs = some x) : ∃ v xs, cs = [v] ∧ IsOps w v xs ∧ xs.length ≤ maxLen := by
  rcases open_slice_pairs (t := 97) (e := 173) Tryz.underlying97 Tryz.underlying173 (by kernel_rfl) (by kernel_rfl) (by kernel_rfl) (by kernel_rfl) (by kernel_rfl) h with
    ⟨rfl, _⟩ | ⟨a, len, cap, m, n, V0, V1, D0, D1, P0, P1, rfl, _, hl, hm, hmm, _, hc⟩
  · exact ⟨_, [], rfl, Or.inl ⟨rfl, none, 0, rfl⟩, by simp⟩
  simp only [if_true] at hmm
  subst hmm
  have each : ∀ i, i < len → ∃ x : O2, w.cell? (a.add (i * 2)) = some (.int .i64 x.1) ∧ w.cell? (a.add (i * 2 + 1)) = some (.int .i64 x.2) := fun i hi => by
    obtain ⟨h1, h2, h3, h4⟩ := hc i (by omega)
    obtain ⟨b, e0, _, _⟩ := DataW.trod_int Tryz.underlying3 h3
    obtain ⟨z, e1, _, _⟩ := DataW.trod_int Tryz.underlying2 h4
    simp only [List.cons.injEq, and_true] at e0 e1
    exact ⟨(b, z), by rw [h1, e0], by rw [h2, e1]⟩
  obtain ⟨f, hf⟩ := choose_lt each
  by_cases h0 : len = 0
  · subst h0
    exact ⟨_, [], rfl, Or.inl ⟨rfl, _, m, rfl⟩, by simp⟩
  obtain ⟨g, off, spot⟩ := a
  have hspot : spot = none := by simpa [Addr.add] using World.cell?_spot (hf 0 (by omega)).1
  subst hspot
  refine ⟨_, (List.range len).map f, rfl, Or.inr ⟨g, off, m, by simp, by simpa using hl, ?_, ?_⟩, by simp; omega⟩
  · exact World.block_lt_of_cell? w ⟨g, off + 0 * 2, none⟩ (by have := (hf 0 (by omega)).1; rw [add_plain] at this; exact this)
  · intro i x hx
    have hi : i < len := by have := (List.getElem?_eq_some_iff.1 hx).1; simpa using this
    have e : f i = x := by simpa [hi] using hx
    have := hf i hi
    rw [e, add_plain, add_plain] at this
    exact ⟨this.1, by rw [← this.2]; rfl⟩
end Go.Proofs.YtnchcndcinpalaaGreatDoor
namespace Go.Proofs.YtnchcndcinpalaaGreatDoor
open Go Go.RowKit Go.Deep Go.WideShapes Go.ChangeShapes
theorem add_plainP (g off i : Nat) : (⟨g, off, none⟩ : Addr).add i = ⟨g, off + i, none⟩ := by
  unfold Addr.add
  by_cases h : i = 0 <;> simp [h]
theorem sevenP {α : Type} : ∀ {l : List α}, l.length = 7 → ∃ a b c d e f g, l = [a, b, c, d, e, f, g]
  | [a, b, c, d, e, f, g], _ => ⟨a, b, c, d, e, f, g, rfl⟩
theorem oneP {α : Type} : ∀ {l : List α}, l.length = 1 → ∃ a, l = [a]
  | [a], _ => ⟨a, rfl⟩
theorem opss_of_cells {H : Type} {enc : TypeId × Value → H} {w : World} {cs : List Value} {fuel : Nat} {x : DataW H × List MemPlace}
    (hf : DataW.trod enc Tryz.prog w 0 (fun _ => true) true fuel 98 cs = some x) : ∃ v oss, cs = [v] ∧ IsOpss w v oss ∧ oss.length ≤ maxLen ∧ ∀ xs ∈ oss, xs.length ≤ maxLen := by
  rcases open_slice1 (t := 98) (e := 97) Tryz.underlying98 (by kernel_rfl) hf with ⟨rfl, _⟩ | ⟨a, len, cap, m, n, V, D, Pl, rfl, _, hl, hm, hmm, _, hc⟩
  · exact ⟨_, [], rfl, Or.inl ⟨rfl, none, 0, rfl⟩, by simp, by simp⟩
  simp only [if_true] at hmm
  subst hmm
  have each : ∀ i, i < len → ∃ xs : List O2, (∃ u, w.cell? (a.add i) = some u ∧ IsOps w u xs) ∧ xs.length ≤ maxLen := fun i hi => by
    obtain ⟨h1, h2⟩ := hc i (by omega)
    obtain ⟨u, xs, e1, e2, e3⟩ := ops_of_cells h2
    simp only [List.cons.injEq, and_true] at e1
    exact ⟨xs, ⟨u, by rw [h1, e1], e2⟩, e3⟩
  obtain ⟨f, hf⟩ := choose_lt each
  have hb : ∀ xs ∈ (List.range len).map f, xs.length ≤ maxLen := fun xs hx => by
    obtain ⟨i, hi, rfl⟩ := List.mem_map.1 hx
    exact (hf i (List.mem_range.1 hi)).2
  by_cases h0 : len = 0
  · subst h0
    exact ⟨_, [], rfl, Or.inl ⟨rfl, _, m, rfl⟩, by simp, by simp⟩
  obtain ⟨g, off, spot⟩ := a
  obtain ⟨⟨u0, hu0, _⟩, _⟩ := hf 0 (by omega)
  have hspot : spot = none := by simpa [Addr.add] using World.cell?_spot hu0
  subst hspot
  refine ⟨_, (List.range len).map f, rfl, Or.inr ⟨g, off, m, by simp, ?_, ?_⟩, by simp; omega, hb⟩
  · exact World.block_lt_of_cell? w ⟨g, off + 0, none⟩ (by rw [add_plainP] at hu0; exact hu0)
  · intro i xs hx
    have hi : i < len := by have := (List.getElem?_eq_some_iff.1 hx).1; simpa using this
    have e : f i = xs := by simpa [hi] using hx
    obtain ⟨⟨u, hu, hr⟩, _⟩ := hf i hi
    rw [add_plainP] at hu
    exact ⟨u, hu, by rw [← e]; exact hr⟩
set_option maxRecDepth 100000 in
theorem pns_of_cells {H : Type} {enc : TypeId × Value → H} {w : World} {cs : List Value} {fuel : Nat} {x : DataW H × List MemPlace}
    (h : DataW.trod enc Tryz.prog w 0 (fun _ => true) true fuel 45 cs = some x) : ∃ v ps, cs = [v] ∧ IsPns w v ps ∧ ps.length ≤ maxLen ∧ FitsP ps := by
  have ce : Tryz.prog.cellsOf 127 = 7 := by kernel_rfl
  have ci : Tryz.prog.cellsOf 3 = 1 := by kernel_rfl
  have cX : Tryz.prog.cellsOf 97 = 1 := by kernel_rfl
  have cY : Tryz.prog.cellsOf 98 = 1 := by kernel_rfl
  rcases open_slice Tryz.underlying45 h with ⟨rfl, _⟩ | ⟨a, len, cap, m, n, D, Pl, rfl, _, hl, hm, hmm, _, hx⟩
  · exact ⟨_, [], rfl, Or.inl ⟨rfl, none, 0, rfl⟩, by simp, fun n hn => by simp at hn⟩
  simp only [if_true] at hmm
  subst hmm
  have each : ∀ i, i < len → ∃ p : Pn, (w.cell? (a.add (i * 7)) = some (.int .i64 p.K) ∧ w.cell? (a.add (i * 7 + 1)) = some (.int .i64 p.T) ∧ w.cell? (a.add (i * 7 + 2)) = some (.int .i64 p.M) ∧ w.cell? (a.add (i * 7 + 5)) = some (.int .i64 p.L) ∧ w.cell? (a.add (i * 7 + 6)) = some (.int .i64 p.R) ∧
      (∃ u, w.cell? (a.add (i * 7 + 3)) = some u ∧ IsOps w u p.Ex) ∧ ∃ u, w.cell? (a.add (i * 7 + 4)) = some u ∧ IsOpss w u p.Exs) ∧ p.Ex.length ≤ maxLen ∧ p.Exs.length ≤ maxLen ∧ ∀ xs ∈ p.Exs, xs.length ≤ maxLen := fun i hi => by
    obtain ⟨cs', h1, h2⟩ := hx i (by omega)
    rw [ce] at h1
    obtain ⟨_, hlen, hcell⟩ := World.cells?_some h1
    obtain ⟨xs, k, hk, hxy, _, hxl, hf⟩ := DataW.trod_struct Tryz.underlying127 h2
    obtain ⟨y0, y1, y2, y3, y4, y5, y6, rfl⟩ := sevenP (show xs.length = 7 from hxl)
    obtain ⟨v0, v1, v2, v3, v4, v5, v6, rfl⟩ := sevenP hlen
    have g0 := hf 0 _ rfl
    have g1 := hf 1 _ rfl
    have g2 := hf 2 _ rfl
    have g3 := hf 3 _ rfl
    have g4 := hf 4 _ rfl
    have g5 := hf 5 _ rfl
    have g6 := hf 6 _ rfl
    simp [ci, cX, cY] at g0 g1 g2 g3 g4 g5 g6
    have e0 := hcell 0 (by omega)
    have e1 := hcell 1 (by omega)
    have e2 := hcell 2 (by omega)
    have e3 := hcell 3 (by omega)
    have e4 := hcell 4 (by omega)
    have e5 := hcell 5 (by omega)
    have e6 := hcell 6 (by omega)
    rw [add_add] at e0 e1 e2 e3 e4 e5 e6
    obtain ⟨z0, q0, _, _⟩ := DataW.trod_int Tryz.underlying3 g0
    obtain ⟨z1, q1, _, _⟩ := DataW.trod_int Tryz.underlying3 g1
    obtain ⟨z2, q2, _, _⟩ := DataW.trod_int Tryz.underlying3 g2
    obtain ⟨u3, x3, q3, hu3, b3⟩ := ops_of_cells g3
    obtain ⟨u4, x4, q4, hu4, b4, b4'⟩ := opss_of_cells g4
    obtain ⟨z5, q5, _, _⟩ := DataW.trod_int Tryz.underlying3 g5
    obtain ⟨z6, q6, _, _⟩ := DataW.trod_int Tryz.underlying3 g6
    simp only [List.cons.injEq, and_true] at q0 q1 q2 q3 q4 q5 q6
    subst q0 q1 q2 q3 q4 q5 q6
    exact ⟨⟨z0, z1, z2, x3, x4, z5, z6⟩, ⟨by simpa using e0, by simpa using e1, by simpa using e2, by simpa using e5, by simpa using e6, ⟨_, by simpa using e3, hu3⟩, _, by simpa using e4, hu4⟩, b3, b4, b4'⟩
  obtain ⟨f, hf⟩ := @choose_lt Pn ⟨⟨0, 0, 0, [], [], 0, 0⟩⟩ _ _ each
  by_cases h0 : len = 0
  · subst h0
    exact ⟨_, [], rfl, Or.inl ⟨rfl, _, _, rfl⟩, by simp, fun n hn => by simp at hn⟩
  obtain ⟨g, off, spot⟩ := a
  have hspot : spot = none := by simpa [Addr.add] using World.cell?_spot (hf 0 (by omega)).1.1
  subst hspot
  refine ⟨_, (List.range len).map f, rfl, Or.inr ⟨g, off, m, by simp, ?_, ?_⟩, by simp; omega, fun n hn => ?_⟩
  · exact World.block_lt_of_cell? w ⟨g, off + 0 * 7, none⟩ (by have := (hf 0 (by omega)).1.1; rw [add_plainP] at this; exact this)
  · intro i p hx'
    have hi : i < len := by have := (List.getElem?_eq_some_iff.1 hx').1; simpa using this
    have e : f i = p := by simpa [hi] using hx'
    obtain ⟨⟨d0, d1, d2, d5, d6, ⟨u, d3, hu⟩, u', d4, hu'⟩, _⟩ := hf i hi
    rw [e] at d0 d1 d2 d5 d6 hu hu'
    rw [add_plainP] at d0 d1 d2 d3 d4 d5 d6
    exact ⟨d0, d1, d2, d5, d6, ⟨u, d3, hu⟩, u', d4, hu'⟩
  · obtain ⟨i, hi, rfl⟩ := List.mem_map.1 hn
    exact (hf i (List.mem_range.1 hi)).2
set_option maxRecDepth 100000 in
theorem open_plan {H : Type} {enc : TypeId × Value → H} {w : World} {base : Nat} {v : Value} {d : DataW H} {p : List MemPlace} (hv : Value.okWide Tryz.prog w .any base 47 v)
    (h : DataW.Trod enc Tryz.prog w 0 (fun _ => true) true 47 v d p) : ∃ u ps, v = .agg #[u] ∧ IsPns w u ps ∧ ps.length ≤ maxLen ∧ FitsP ps := by
  have cA : Tryz.prog.cellsOf 47 = 1 := by kernel_rfl
  have cN : Tryz.prog.cellsOf 45 = 1 := by kernel_rfl
  obtain ⟨cs, rfl, hsz⟩ := okWide_struct Tryz.underlying47 hv
  obtain ⟨fuel, hf⟩ := h
  obtain ⟨xs, k, hk, hxy, hl, hxl, hfs⟩ := DataW.trod_struct Tryz.underlying47 hf
  obtain ⟨y0, rfl⟩ := oneP (show xs.length = 1 from hxl)
  have g0 := hfs 0 _ rfl
  simp [cN, Value.cells] at g0
  obtain ⟨u, ps, e, h1, h2, h3⟩ := pns_of_cells g0
  rw [cA] at hsz
  obtain ⟨c, hc⟩ := oneP (show cs.toList.length = 1 by simpa using hsz)
  have e2 : cs = #[u] := by
    apply Array.ext'
    rw [hc] at e ⊢
    simpa using e
  exact ⟨u, ps, by rw [e2], h1, h2, h3⟩
end Go.Proofs.YtnchcndcinpalaaGreatDoor
namespace Go.Proofs.YtnchcndcinpalaaGreatDoor.fnExactUnnest
open Go.ChangeShapes Go.WideShapes Go.ChangeAt Go.RowKit Go.Joins
theorem own : ownKnob Tryz.prog.godebug = none := by kernel_rfl
theorem laidOut : laidOutB Tryz.prog = true := by kernel_rfl
theorem door_met (os : Os) (args : Array Value) : laidMetH Tryz.prog Rows.fnExactUnnestRow.laid ((World.doorLaid Tryz.prog 400 os).forCall (fun _ _ => 0) ⟨#[], args, []⟩).memory :=
  laidMetH_of_parts3 (fuel := 8) (laidMet_of_run' 8 (by kernel_rfl) (by kernel_rfl)) (by kernel_rfl) (by kernel_rfl)
theorem hTTakes {W : World} (h : laidMetH Tryz.prog Rows.fnExactUnnestRow.laid W) : TTakes W := by
  obtain ⟨h1, h2⟩ := Tables.cells_of_laid (n := "loop.example/s0035/impl.takesTable") (d := Rows.laid_loop_example_s0035_impl_takesTable) h (by kernel_rfl) (by simp [Rows.fnExactUnnestRow]) (g := 3) (t := 185) (by kernel_rfl) (by kernel_rfl) 4 (by kernel_rfl)
  exact ⟨h1, h2⟩
theorem hTKw {W : World} (h : laidMetH Tryz.prog Rows.fnExactUnnestRow.laid W) : TKw W := by
  obtain ⟨h1, h2⟩ := Tables.cells_of_laid (n := "loop.example/s0035/impl.keywords") (d := Rows.laid_loop_example_s0035_impl_keywords) h (by kernel_rfl) (by simp [Rows.fnExactUnnestRow]) (g := 4) (t := 187) (by kernel_rfl) (by kernel_rfl) 4 (by kernel_rfl)
  exact ⟨h1, h2⟩
theorem hTPlan {W : World} (h : laidMetH Tryz.prog Rows.fnExactUnnestRow.laid W) : TPlan W := by
  obtain ⟨h1, h2⟩ := Tables.cells_of_laid (n := "loop.example/s0035/impl.planFields") (d := Rows.laid_loop_example_s0035_impl_planFields) h (by kernel_rfl) (by simp [Rows.fnExactUnnestRow]) (g := 1) (t := 142) (by kernel_rfl) (by kernel_rfl) 4 (by kernel_rfl)
  exact ⟨h1, h2⟩
theorem hTFlat {W : World} (h : laidMetH Tryz.prog Rows.fnExactUnnestRow.laid W) : TFlat W := by
  obtain ⟨h1, h2⟩ := Tables.cells_of_laid (n := "loop.example/s0035/impl.flatFields") (d := Rows.laid_loop_example_s0035_impl_flatFields) h (by kernel_rfl) (by simp [Rows.fnExactUnnestRow]) (g := 2) (t := 143) (by kernel_rfl) (by kernel_rfl) 4 (by kernel_rfl)
  exact ⟨h1, h2⟩
theorem hTKinds {W : World} (h : laidMetH Tryz.prog Rows.fnExactUnnestRow.laid W) : TKinds W := by
  obtain ⟨h1, h2⟩ := Tables.cells_of_laid (n := "loop.example/s0035/impl.flatKinds") (d := Rows.laid_loop_example_s0035_impl_flatKinds) h (by kernel_rfl) (by simp [Rows.fnExactUnnestRow]) (g := 0) (t := 139) (by kernel_rfl) (by kernel_rfl) 4 (by kernel_rfl)
  exact ⟨h1, h2⟩
set_option maxRecDepth 100000 in
theorem lifted (os : Os) (started : os.Started) (H : Type) (enc : TypeId × Value → H) :
    ReturnsInHanded {} Tryz.checked os 4 .any (fun w args => (Rows.fnExactUnnestSpec.pre enc Tryz.prog Tryz.f4 [] false w args ∧ laidMetH Tryz.prog Rows.fnExactUnnestRow.laid w) ∧ sizedMet enc Tryz.prog Tryz.f4 (OpenSpec.ofChange Rows.fnExactUnnestSpec) false w args)
      (Rows.fnExactUnnestSpec.post enc Tryz.prog Tryz.f4 false true false false) := by
  refine returnsInHanded_of_change_and (C := Tryz.checked) (X := fun w _ => laidMetH Tryz.prog Rows.fnExactUnnestRow.laid w) (fun _ _ _ hh h => h.of_heap hh) own started (by kernel_rfl) Tryz.func4
    (ChangeSpec.witness_shaped (enc := enc) (C := Tryz.checked) (os := os) (X := fun w _ => laidMetH Tryz.prog Rows.fnExactUnnestRow.laid w) false (World.doorLaid Tryz.prog 400 os) #[.agg #[.slice none 0 0], .agg #[.slice none 0 0]] 8 rfl (World.shaped_of_RefB (by kernel_rfl) (by kernel_rfl)) (by kernel_rfl) (by kernel_rfl) (by kernel_rfl) (door_met os _)) ?_
  intro W base args ds gs before hval0 hW _ _ hL _
  have hval : ∀ (j : Nat) t v, Tryz.f4.params[j]? = some t → args[j]? = some v → Value.okWide Tryz.prog W .any base t v := hval0
  have hW' := hW
  obtain ⟨p, q, hA0, hV, rfl, hfz, hnd⟩ := hW
  have hA : DataW.TrodAll enc Tryz.prog W 0 (fun _ => true) true Tryz.f4.params.toList args.toList ds p := hA0
  rw [Tryz.params4] at hA hval
  obtain ⟨v0, vs0, d0, ds0, p0, q0, hargs, rfl, rfl, h0, r0⟩ := trodAll_cons hA
  obtain ⟨v1, vs1, d1, ds1, p1, q1, rfl, rfl, rfl, h1, r1⟩ := trodAll_cons r0
  obtain ⟨rfl, rfl, rfl⟩ := trodAll_nil r1
  obtain rfl : args = #[v0, v1] := by cases args; simp_all
  obtain ⟨u0, ns0, rfl, hr0, hl0, hf0⟩ := open_plan (hval 0 47 v0 rfl rfl) h0
  obtain ⟨u1, ns1, rfl, hr1, hl1, hf1⟩ := open_db (hval 1 27 v1 rfl rfl) h1
  refine (lawUnnest_calls u0 u1 ns0 ns1 W hr0 hr1 hl0 hf0 hl1 hf1 (hTTakes hL) (hTKw hL) (hTPlan hL) (hTFlat hL) (hTKinds hL)).mono fun e W' ⟨he, hb⟩ => ?_
  subst he
  obtain ⟨g0, g1, g2, g3, g4, rfl⟩ := Frame.len5 (Frame.trodVars_length hV)
  exact ⟨_, rfl, Frame.law_post laidOut (by kernel_rfl) (by kernel_rfl) (by kernel_rfl) Tryz.underlying4 hW' rfl hb⟩
theorem said : Rows.FnExactUnnestSaid :=
  OpenClaim.holds_of_wide 4 Tryz.f4 rfl rfl rfl rfl rfl rfl rfl ⟨rfl, rfl, rfl, rfl, rfl⟩ rfl rfl rfl rfl rfl (by kernel_rfl) Tryz.func4 (by kernel_rfl)
    (of_decide_eq_true (by kernel_rfl)) (by unfold Func.isWrapper; first | (rw [if_pos (by decide +kernel)]; kernel_rfl) | (rw [if_neg (by decide +kernel)]; exact ⟨rfl, rfl⟩))
    (fun os started H enc _ => lifted os started H enc)
theorem plain (f : FuncId) (fn : Func) (hf : Tryz.pinned.checked.prog.funcNamed "loop.example/s0035/laws.FnExactUnnest" = some f) (hfn : Tryz.pinned.checked.prog.funcs[f]? = some fn) :
    false = Tryz.pinned.checked.prog.looks [] ∧ ∀ (j : Nat) t, fn.params[j]? = some t → Tryz.pinned.checked.prog.wantsStandIn t = false := by
  obtain rfl : f = 4 := Option.some.inj ((show Tryz.prog.funcNamed "loop.example/s0035/laws.FnExactUnnest" = some 4 by kernel_rfl).symm.trans hf) |>.symm
  obtain rfl : fn = Tryz.f4 := (Option.some.inj (Tryz.func4.symm.trans hfn)).symm
  have hall : (Tryz.f4.params.toList.all fun u => !Tryz.prog.wantsStandIn u) = true := by kernel_rfl
  refine ⟨by kernel_rfl, fun j t ht => ?_⟩
  have := List.all_eq_true.1 hall t (Array.mem_toList_iff.2 (Array.mem_of_getElem? ht))
  exact (show Tryz.prog.wantsStandIn t = false by simpa using this)
theorem card : Rows.FnExactUnnestCardSaid :=
  Claim7.holds_tied_plain_at .later [] _ _ _ _ said (fun _ h => by cases h) (by kernel_rfl) (fun _ h => by cases h) fnExactUnnest_row_tie rfl ⟨rfl, rfl⟩ (by kernel_rfl) rfl plain (by kernel_rfl)
end Go.Proofs.YtnchcndcinpalaaGreatDoor.fnExactUnnest
namespace Go.Proofs.YtnchcndcinpalaaGreatDoor
theorem fnExactUnnest_card : Rows.FnExactUnnestCardSaid := fnExactUnnest.card
end Go.Proofs.YtnchcndcinpalaaGreatDoor
