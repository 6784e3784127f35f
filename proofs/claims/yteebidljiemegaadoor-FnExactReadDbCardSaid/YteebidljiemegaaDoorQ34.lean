import Derived.Test.YteebidljiemegaaDoorRdSpec
import Derived.Test.YteebidljiemegaaDoorTabG
namespace Go.Proofs.YteebidljiemegaaDoor
open Go Go.RowKit
def flatR (xs : List V2) : List Value := xs.flatMap fun x => [.bool x.1, .int .i64 x.2]
theorem flatR_length : ∀ (xs : List V2), (flatR xs).length = xs.length * 2
  | [] => rfl
  | x :: xs => by
    have := flatR_length xs
    simp only [flatR, List.flatMap_cons, List.length_append, List.length_cons, List.length_nil] at this ⊢
    omega
theorem flatR_append (a b : List V2) : flatR (a ++ b) = flatR a ++ flatR b := by simp [flatR]
theorem flatR_at : ∀ (xs : List V2) (i : Nat) (x : V2), xs[i]? = some x → (flatR xs)[i * 2]? = some (.bool x.1) ∧ (flatR xs)[i * 2 + 1]? = some (.int .i64 x.2)
  | [], i, x, h => by simp at h
  | y :: xs, 0, x, h => by
    simp at h
    subst h
    exact ⟨rfl, rfl⟩
  | y :: xs, i + 1, x, h => by
    have := flatR_at xs i x (by simpa using h)
    simp only [flatR, List.flatMap_cons] at this ⊢
    rw [show (i + 1) * 2 = i * 2 + 2 from by omega, show i * 2 + 2 + 1 = i * 2 + 1 + 2 from by omega]
    exact this
theorem ownR {w : World} {B g cap n : Nat} {xs : List V2} (h : w.ownsRow B 39 2 (.slice (some ⟨g, 0, none⟩) n cap) n (flatR xs)) (hn : n = xs.length) : OwnRow w g xs.length xs ∧ n ≤ cap ∧ B ≤ g := by
  subst hn
  refine ⟨⟨(h.lt g rfl).2, fun o => h.frozenAt o, fun o ho => ⟨(flatR xs)[o]'(by rw [flatR_length]; exact ho), by rw [h.cellAt o ho, List.getElem?_eq_getElem]⟩, fun i x hx => ?_⟩, ?_, (h.lt g rfl).1⟩
  · have hi := (List.getElem?_eq_some_iff.1 hx).1
    have := flatR_at xs i x hx
    rw [Nat.zero_add]
    exact ⟨(h.cellAt _ (by omega)).trans this.1, (h.cellAt _ (by omega)).trans this.2⟩
  · rcases h.2 with ⟨h1, _⟩ | ⟨g', cap', cur, h1, _, _, h4, _⟩
    · simp at h1
    · simp only [Value.slice.injEq] at h1
      omega
theorem stepW_isRow {ts : List Tb} {a : ByteArray} {r : List ByteArray} (h : IsRowW (a :: r)) (ht : ts ≠ []) : stepW ts (a :: r) = some (addR ts (r.map valW)) := by
  obtain ⟨a', r', e, h1, h2⟩ := h
  simp at e
  obtain ⟨rfl, rfl⟩ := e
  exact stepW_row h1 ht h2
theorem stepW_bad {ts : List Tb} {a : ByteArray} {r : List ByteArray} (h1 : ¬ IsTabW (a :: r)) (h2 : ¬ (IsRowW (a :: r) ∧ ts ≠ [])) : stepW ts (a :: r) = none := by
  by_cases ht : a.toList = tabL
  · by_cases hr : r.length = 2
    · match r, hr with
      | [b, c], _ => exact stepW_tabn ht (fun hc => h1 ⟨a, b, c, rfl, ht, hc⟩)
    · exact stepW_tabl ht hr
  · exact stepW_rown ht (fun e => h2 ⟨⟨a, r, rfl, e.1, e.2.2⟩, e.2.1⟩)
end Go.Proofs.YteebidljiemegaaDoor
namespace Go.Proofs.YteebidljiemegaaDoor
open Go Go.RowKit
def RowsX (w : World) (ua : Option Addr) (xss : List (List V2)) : Prop := ∀ (j : Nat) (hj : j < xss.length), ∃ G ra rc, ua = some ⟨G, 0, none⟩ ∧ G < w.heap.size ∧ w.cell? ⟨G, j, none⟩ = some (.slice ra (xss[j]).length rc)
theorem RowsX.of {w w1 : World} {ua : Option Addr} {xss : List (List V2)} (h : RowsX w ua xss) (hb : Below w.heap.size w w1) : RowsX w1 ua xss := fun j hj => by
  obtain ⟨G, ra, rc, h1, h2, h3⟩ := h j hj
  exact ⟨G, ra, rc, h1, Nat.lt_of_lt_of_le h2 hb.size, (hb.cell (p := ⟨G, j, none⟩) h2).trans h3⟩
def TabsX (w : World) (a : Option Addr) (ts : List Tb) : Prop := ∀ (i : Nat) (hi : i < ts.length), ∃ g ua uc, a = some ⟨g, 0, none⟩ ∧ g < w.heap.size ∧ w.cell? ⟨g, i * 3, none⟩ = some (.string (ts[i]).Name) ∧ w.cell? ⟨g, i * 3 + 1, none⟩ = some (.int .i64 (ts[i]).Cols) ∧ w.cell? ⟨g, i * 3 + 2, none⟩ = some (.slice ua (ts[i]).Rows.length uc) ∧ RowsX w ua (ts[i]).Rows
theorem TabsX.of {w w1 : World} {a : Option Addr} {ts : List Tb} (h : TabsX w a ts) (hb : Below w.heap.size w w1) : TabsX w1 a ts := fun i hi => by
  obtain ⟨g, ua, uc, h1, h2, h3, h4, h5, h6⟩ := h i hi
  exact ⟨g, ua, uc, h1, Nat.lt_of_lt_of_le h2 hb.size, (hb.cell (p := ⟨g, i * 3, none⟩) h2).trans h3, (hb.cell (p := ⟨g, i * 3 + 1, none⟩) h2).trans h4, (hb.cell (p := ⟨g, i * 3 + 2, none⟩) h2).trans h5, h6.of hb⟩
theorem TabG.tabsX {w : World} {lab : Lt} {B : Nat} {a : Option Addr} {n c : Nat} {cs : List Value} {ts : List Tb} (h : TabG w lab B (.slice a n c) cs ts) : TabsX w a ts := fun i hi => by
  obtain ⟨u, rs, c0, c1, c2, hm, hr⟩ := h.tab i ts[i] (List.getElem?_eq_getElem hi)
  rcases h.own.2 with ⟨_, h2⟩ | ⟨g, cap, cur, h1, _, h3, _⟩
  · omega
  · have ho := h.own
    rw [h1] at ho
    simp only [Value.slice.injEq] at h1
    obtain ⟨ua, uc, hu⟩ : ∃ ua uc, u = .slice ua rs.length uc := by
      rcases hr.1.2 with ⟨k1, k2⟩ | ⟨g', cap', cur', k1, _⟩
      · exact ⟨none, 0, by rw [k1, k2]⟩
      · exact ⟨_, _, k1⟩
    have hl : rs.length = (ts[i]).Rows.length := by rw [← hm]; simp
    refine ⟨g, ua, uc, h1.1, (Array.getElem?_eq_some_iff.1 h3).1, by rw [ho.cellAt _ (by omega)]; exact c0, by rw [ho.cellAt _ (by omega)]; exact c1, by rw [ho.cellAt _ (by omega), c2, hu, hl], fun j hj => ?_⟩
    rcases hr.1.2 with ⟨_, k2⟩ | ⟨G, cap', cur', k1, _, k3, _⟩
    · omega
    · have hoR := hr.1
      rw [k1] at hoR
      rw [hu] at k1
      simp only [Value.slice.injEq] at k1
      have hj' : j < rs.length := by omega
      refine ⟨G, some ⟨(rs[j]).1, 0, none⟩, (rs[j]).2.1, k1.1, (Array.getElem?_eq_some_iff.1 k3).1, ?_⟩
      have e : (ts[i]).Rows[j] = kR rs[j] := by
        have : (rs.map kR)[j]'(by simpa using hj') = (ts[i]).Rows[j] := by simp only [hm]
        rw [← this]; simp
      rw [hoR.cellAt j (by omega), List.getElem?_map, List.getElem?_eq_getElem hj', e]
      rfl
end Go.Proofs.YteebidljiemegaaDoor
