/-
  AN ARGUMENT []byte, OPENED.
-/
import Derived.Test.YtafmlbojmmdcdaaDoorReader
import Derived.OpenShut
import Derived.ChangeSlices
import Derived.ChangeAt
import Derived.Deep.Slices
namespace Go.Proofs.YtafmlbojmmdcdaaDoor
open Go Go.RowKit Go.WideShapes Go.ChangeShapes Go.ChangeAt
theorem open_bytes {H : Type} {enc : TypeId × Value → H} {w : World} {base : Nat} {v : Value} {d : DataW H} {p : List MemPlace} (hv : Value.okWide Tryd.prog w .any base 22 v)
    (h : DataW.Trod enc Tryd.prog w 0 (fun _ => true) true 22 v d p) : ∃ cs, IsBytes w v cs ∧ ((∀ b ∈ cs, b ≤ 255) ∧ cs.length ≤ maxLen) := by
  obtain ⟨a1, len, cap, rfl⟩ := okWide_slice Tryd.underlying22 hv
  obtain ⟨fuel, hf⟩ := h
  rcases open_ints Tryd.underlying22 Tryd.underlying5 (by kernel_rfl) hf with ⟨hcs, hx⟩ | ⟨a, len', cap', zs, hcs, _, hl, hm, hz, hx, hcell, hwz⟩
  · simp [Value.cells] at hcs
    obtain ⟨rfl, rfl, rfl⟩ := hcs
    exact ⟨[], Or.inl ⟨rfl, _, _, rfl⟩, by simp, by simp⟩
  · simp [Value.cells] at hcs
    obtain ⟨rfl, rfl, rfl⟩ := hcs
    simp only [if_true] at hz
    have hzl : len ≤ zs.length := by omega
    have hlen : ((zs.take len).map Int.toNat).length = len := by simp; omega
    have hget : ∀ i, i < len → zs[i]?.getD 0 = zs.getD i 0 := fun i _ => by rw [List.getD_eq_getElem?_getD]
    by_cases h0 : len = 0
    · subst h0
      exact ⟨[], Or.inl ⟨rfl, _, _, rfl⟩, by simp, by simp⟩
    obtain ⟨g, off, spot⟩ := a
    have hspot : spot = none := by simpa [Addr.add] using World.cell?_spot (hcell 0 (by omega))
    subst hspot
    refine ⟨(zs.take len).map Int.toNat, Or.inr ⟨g, off, cap, by rw [hlen], by omega, ?_, fun i b hi => ?_⟩, fun b hb => ?_, by omega⟩
    · have := hcell 0 (by omega)
      rw [Addr.add_lit] at this
      exact World.block_lt_of_cell? w _ this
    · have hil := (List.getElem?_eq_some_iff.1 hi).1
      rw [hlen] at hil
      have hc := hcell i (by omega)
      rw [Addr.add_lit] at hc
      rw [hc]
      have hr := range_u8 hwz i
      rw [List.getElem?_map, List.getElem?_take, if_pos hil, List.getElem?_eq_getElem (by omega)] at hi
      rw [List.getElem?_eq_getElem (by omega)] at hr
      simp at hi hr
      rw [List.getD_eq_getElem?_getD, List.getElem?_eq_getElem (by omega)]
      simp
      omega
    · obtain ⟨z, hz', rfl⟩ := List.mem_map.1 hb
      obtain ⟨i, hi, rfl⟩ := List.mem_iff_getElem.1 (List.mem_of_mem_take hz')
      have hr := range_u8 hwz i
      rw [List.getElem?_eq_getElem hi] at hr
      simp at hr
      omega
end Go.Proofs.YtafmlbojmmdcdaaDoor
