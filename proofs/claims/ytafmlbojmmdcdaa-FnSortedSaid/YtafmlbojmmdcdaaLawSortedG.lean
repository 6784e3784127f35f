import Derived.Test.YtafmlbojmmdcdaaDrawSort2
import Derived.Test.YtafmlbojmmdcdaaLwRows
namespace Go.Proofs.Ytafmlbojmmdcdaa
open Go Go.RowKit
/-- a grid as it stands in memory -/
structure GS (w : World) (G cap : Nat) (rs : List R3) (D : List (List V2)) : Prop where
  size : G < w.heap.size
  grid : GridAt w G 0 rs
  rows : RowsOk w rs
  vals : rs.map kR = D
theorem GS.of {w w1 : World} {G cap : Nat} {rs : List R3} {D : List (List V2)} (h : GS w G cap rs D) (hb : Below w.heap.size w w1) : GS w1 G cap rs D := ⟨Nat.lt_of_lt_of_le h.size hb.size, h.grid.of h.size hb, h.rows.of hb, h.vals⟩
theorem GS.len {w : World} {G cap : Nat} {rs : List R3} {D : List (List V2)} (h : GS w G cap rs D) : rs.length = D.length := by rw [← h.vals]; simp
theorem GS.wide {w : World} {G cap k : Nat} {rs : List R3} {D : List (List V2)} (h : GS w G cap rs D) (hw : ∀ x ∈ D, x.length ≤ k) : ∀ r ∈ rs, r.2.2.length ≤ k := fun r hr => hw _ (by rw [← h.vals]; exact List.mem_map.2 ⟨r, hr, rfl⟩)
theorem srt_wide {D : List (List V2)} {k : Nat} (hw : ∀ x ∈ D, x.length ≤ k) : ∀ x ∈ srt D, x.length ≤ k := fun x hx => by
  obtain ⟨y, hy, rfl⟩ := List.mem_map.1 ((srt_perm D).mem_iff.1 hx)
  rw [List.length_map]
  exact hw y hy
/-- SortRows over a grid of n rows -/
theorem gSort (D E : List (List V2)) (n : Nat) (hn : n = D.length) (hE : srt D = E) (hl : n ≤ 1000) (hw : ∀ x ∈ D, x.length ≤ 1000) (w : World) (G cap : Nat) (rs : List R3) (h : GS w G cap rs D) :
    Calls Try.prog 5 #[.slice (some ⟨G, 0, none⟩) n cap] w fun e w' => ∃ G' cap' qs, e = .returned (.slice (some ⟨G', 0, none⟩) n cap') ∧ GS w' G' cap' qs E ∧ Below w.heap.size w w' := by
  have hlen := h.len
  have SC := SortRows_calls rs G 0 cap w h.size h.grid h.rows (by omega) (fun r hr => by have := h.wide hw r hr; omega)
  rw [hlen, ← hn] at SC
  refine SC.mono ?_
  rintro e w' ⟨G', cap', qs, rfl, h1, h2, _, _, h5, h6⟩
  refine ⟨G', cap', qs, rfl, ⟨h1.lt.1, h1.grid, h2, ?_⟩, h6⟩
  rw [h5, ← hE, srt, hn, ← h.vals, List.map_map]
  rfl
theorem gCount (D : List (List V2)) (n : Nat) (hn : n = D.length) (hl : n ≤ 1000) (hw : ∀ x ∈ D, x.length ≤ 1000) (ys : List V2) (hys : ys.length ≤ 1000) (A : Nat) (hA : alike D ys = A) (w : World) (G cap g' cap' : Nat) (rs : List R3) (h : GS w G cap rs D) (hy : OwnRow w g' ys.length ys ∧ ys.length ≤ cap') :
    Calls Try.prog 6 #[.slice (some ⟨G, 0, none⟩) n cap, .slice (some ⟨g', 0, none⟩) ys.length cap'] w fun e w' => e = .returned (.int .i64 (A : Int)) ∧ Below w.heap.size w w' := by
  have hlen := h.len
  have SC := lwCount_calls rs ys G 0 cap g' 0 cap' w h.size hy.1.size h.grid h.rows hy.1.held hy.2 (by omega) (fun r hr => by have := h.wide hw r hr; omega) (by omega)
  rw [hlen, ← hn, h.vals, hA] at SC
  exact SC
theorem gSame (D : List (List V2)) (n : Nat) (hn : n = D.length) (hl : n ≤ 1000) (hw : ∀ x ∈ D, x.length ≤ 1000) (w : World) (G cap G' cap' : Nat) (rs qs : List R3) (h : GS w G cap rs D) (h' : GS w G' cap' qs D) :
    Calls Try.prog 9 #[.slice (some ⟨G, 0, none⟩) n cap, .slice (some ⟨G', 0, none⟩) n cap'] w fun e w' => e = .returned (.bool true) ∧ Below w.heap.size w w' := by
  have hlen := h.len
  have hlen' := h'.len
  have SC := lwSameRows_calls rs qs G 0 cap G' 0 cap' w h.size h'.size h.grid h'.grid h.rows h'.rows (h.vals.trans h'.vals.symm) (by omega) (fun r hr => by have := h.wide hw r hr; omega)
  rw [hlen, hlen', ← hn] at SC
  exact SC
theorem gAt {w : World} {G cap : Nat} {rs : List R3} {D : List (List V2)} (h : GS w G cap rs D) (k : Nat) (hk : k < D.length) :
    ∃ g c, w.cell? ⟨G, k, none⟩ = some (.slice (some ⟨g, 0, none⟩) D[k].length c) ∧ OwnRow w g D[k].length D[k] ∧ D[k].length ≤ c := by
  have hl := h.len
  have hk' : k < rs.length := by omega
  have e : D[k] = rs[k].2.2 := by
    have := h.vals
    subst this
    simp
  have hc := h.grid k rs[k] (by simp [hk'])
  simp only [Nat.zero_add] at hc
  have hr := h.rows rs[k] (List.getElem_mem hk')
  rw [e]
  exact ⟨rs[k].1, rs[k].2.1, hc, hr.1, hr.2⟩
end Go.Proofs.Ytafmlbojmmdcdaa
