import Derived.Test.YteebidljiemegaaDoorSpecDb
import Derived.Maps.OwnSet
namespace Go.Proofs.YteebidljiemegaaDoor
open Go Go.RowKit
def TbOk (t : Tb) : Prop := NameB t.Name ∧ 1 ≤ t.Cols ∧ t.Cols ≤ 16 ∧ ∀ xs ∈ t.Rows, (xs.length : Int) = t.Cols
def Diff (ts : List Tb) (k : Nat) : Prop := ∀ (i j : Nat) (hi : i < ts.length) (hj : j < ts.length), i < j → j < k → (ts[i]).Name.toList ≠ (ts[j]).Name.toList
theorem fidx_diff (ts : List Tb) : (∀ (i : Nat) (hi : i < ts.length), fidx ts (ts[i]).Name.toList = (i : Int)) ↔ Diff ts ts.length := by
  constructor
  · intro h i j hi hj hij _ e
    have h1 := h i hi
    have h2 := h j hj
    rw [e] at h1
    omega
  · intro h i hi
    exact fidx_at hi (fun j hj hji => h j i hj hi hji hi) rfl
theorem dbV_iff (ts : List Tb) : DbV ts ↔ (ts.length ≤ 50 ∧ (∀ (i : Nat) (hi : i < ts.length), TbOk ts[i]) ∧ sumR ts ≤ 1000 ∧ Diff ts ts.length) := by
  rw [← fidx_diff]
  constructor
  · intro h
    exact ⟨h.few, fun i hi => ⟨(h.each i hi).1, (h.each i hi).2.1, (h.each i hi).2.2.1, (h.each i hi).2.2.2.2⟩, h.rows, fun i hi => (h.each i hi).2.2.2.1⟩
  · rintro ⟨h1, h2, h3, h4⟩
    exact ⟨h1, fun i hi => ⟨(h2 i hi).1, (h2 i hi).2.1, (h2 i hi).2.2.1, h4 i hi, (h2 i hi).2.2.2⟩, h3⟩
theorem keyLit (l : List UInt8) : WideAt.IsKeyLit (.string l) := trivial
structure MapIn (D : DataW Unit) (ts : List Tb) (k : Nat) : Prop where
  keys : ∀ l, Maps.has D (.string l) = true ↔ ∃ j, ∃ hj : j < ts.length, j < k ∧ (ts[j]).Name.data.toList = l
  size : Maps.size D ≤ k
  all : Maps.size D = k ↔ Diff ts k
theorem MapIn.start (ts : List Tb) : MapIn (.map []) ts 0 :=
  ⟨fun l => ⟨fun h => by simp [Maps.has] at h, fun ⟨j, _, h, _⟩ => by omega⟩, by simp [Maps.size], ⟨fun _ i j _ _ _ h => by omega, fun _ => rfl⟩⟩
theorem diff_succ {ts : List Tb} {k : Nat} (hk : k < ts.length) : Diff ts (k + 1) ↔ (Diff ts k ∧ ∀ (j : Nat) (hj : j < ts.length), j < k → (ts[j]).Name.toList ≠ (ts[k]).Name.toList) := by
  constructor
  · intro h
    exact ⟨fun i j hi hj h1 h2 => h i j hi hj h1 (by omega), fun j hj h1 => h j k hj hk h1 (by omega)⟩
  · rintro ⟨h1, h2⟩ i j hi hj h3 h4
    by_cases e : j = k
    · subst e; exact h2 i hi h3
    · exact h1 i j hi hj h3 (by omega)
theorem toList_data (s : ByteArray) : s.toList = s.data.toList := Go.ByteArray.toList_eq s
theorem MapIn.put {D : DataW Unit} {ts : List Tb} {k : Nat} (h : MapIn D ts k) (hk : k < ts.length) (ht : Maps.Tidy D) (d : DataW Unit) : MapIn (D.put (.string (ts[k]).Name.data.toList) d) ts (k + 1) := by
  have hin : Maps.has D (.string (ts[k]).Name.data.toList) = true ↔ ¬ ∀ (j : Nat) (hj : j < ts.length), j < k → (ts[j]).Name.toList ≠ (ts[k]).Name.toList := by
    rw [h.keys]
    constructor
    · rintro ⟨j, hj, h1, h2⟩ hh
      exact hh j hj h1 (by rw [toList_data, toList_data, h2])
    · intro hh
      by_cases e : ∃ j, ∃ hj : j < ts.length, j < k ∧ (ts[j]).Name.data.toList = (ts[k]).Name.data.toList
      · exact e
      · exact absurd (fun j hj h1 h2 => e ⟨j, hj, h1, by rw [← toList_data, ← toList_data, h2]⟩) hh
  refine ⟨fun l => ?_, ?_, ?_⟩
  · by_cases e : l = (ts[k]).Name.data.toList
    · subst e
      rw [Maps.has_put_same ht.isMap (keyLit _)]
      exact ⟨fun _ => ⟨k, hk, by omega, rfl⟩, fun _ => rfl⟩
    · rw [Maps.has_put_other (by intro e'; exact e (by simpa using e')), h.keys]
      constructor
      · rintro ⟨j, hj, h1, h2⟩
        exact ⟨j, hj, by omega, h2⟩
      · rintro ⟨j, hj, h1, h2⟩
        refine ⟨j, hj, ?_, h2⟩
        by_cases e2 : j = k
        · subst e2; exact absurd h2.symm e
        · omega
  · rw [Maps.size_put ht]
    have := h.size
    split <;> omega
  · rw [Maps.size_put ht, diff_succ hk]
    have h1 := h.size
    have h2 := h.all
    by_cases e : Maps.has D (.string (ts[k]).Name.data.toList) = true
    · rw [if_pos e]
      exact ⟨fun h' => by omega, fun h' => absurd h'.2 (hin.1 e)⟩
    · rw [if_neg e]
      have h3 : ∀ (j : Nat) (hj : j < ts.length), j < k → (ts[j]).Name.toList ≠ (ts[k]).Name.toList := Classical.byContradiction fun hh => e (hin.2 hh)
      constructor
      · intro h'
        exact ⟨h2.1 (by omega), h3⟩
      · rintro ⟨h', _⟩
        have := h2.2 h'
        omega
end Go.Proofs.YteebidljiemegaaDoor
