import Derived.Test.YtkdeilhkobcglaaDoorNodeKit
/-
  THE BEGINNING OF A STRETCH, as the specification finds it.
-/
namespace Go.Proofs.YtkdeilhkobcglaaDoor
open Go Go.RowKit

open Classical in
noncomputable def frm (ns : List Nd) (i : Nat) : Int := if h : ∃ f, Seg ns f i (kidsAt ns i) then ((Classical.choose h : Nat) : Int) else -1
theorem frm_some {ns : List Nd} {f i : Nat} (h : Seg ns f i (kidsAt ns i)) : frm ns i = (f : Int) := by
  unfold frm
  rw [dif_pos ⟨f, h⟩]
  have := h.uniqL _ (Classical.choose_spec (⟨f, h⟩ : ∃ f, Seg ns f i (kidsAt ns i)))
  rw [this]
theorem frm_none {ns : List Nd} {i : Nat} (h : ∀ f, ¬ Seg ns f i (kidsAt ns i)) : frm ns i = -1 := by
  unfold frm
  rw [dif_neg (fun ⟨f, hf⟩ => h f hf)]
theorem frm_cases (ns : List Nd) (i : Nat) : (frm ns i = -1 ∧ ∀ f, ¬ Seg ns f i (kidsAt ns i)) ∨ ∃ f : Nat, frm ns i = (f : Int) ∧ Seg ns f i (kidsAt ns i) := by
  by_cases h : ∃ f, Seg ns f i (kidsAt ns i)
  · obtain ⟨f, hf⟩ := h
    exact Or.inr ⟨f, frm_some hf, hf⟩
  · have h' : ∀ f, ¬ Seg ns f i (kidsAt ns i) := fun f hf => h ⟨f, hf⟩
    exact Or.inl ⟨frm_none h', h'⟩
/-- what a whole row of kids says of one of them -/
theorem Seg.mid {ns : List Nd} {f i a m : Nat} {ks : List Int} (h : Seg ns f i ks) (hm : m < ks.length) (ha : Seg ns a i (ks.drop (m + 1))) : ∃ p c, a = p + 1 ∧ ks[m] = (p : Int) ∧ Seg ns c p (kidsAt ns p) := by
  rw [← List.take_append_drop (m + 1) ks] at h
  obtain ⟨c, h1, h2⟩ := h.split'
  obtain rfl := ha.uniqL _ h2
  rw [take_snocN ks m hm] at h1
  obtain ⟨p, c', e1, e2, _, h4⟩ := h1.inv
  exact ⟨p, c', e1, e2, h4⟩

end Go.Proofs.YtkdeilhkobcglaaDoor
