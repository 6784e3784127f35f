import Derived.Test.YtahanplikbdccaaDoorGMath
import Derived.Test.YtahanplikbdccaaDoorGSpec13
/-
  WHAT A VALID PLAN SAYS OF ITS NODES' FIELDS; when the program's answer is the specification's.
-/
namespace Go.Proofs.YtahanplikbdccaaDoor
open Go Go.RowKit

theorem wid_down {ts : List Tb} {ps : List Pn} {i : Nat} {env : Int} (hi : i < ps.length) (h : 0 ≤ wid ts ps i env) :
    UsedP ts ps[i] ∧ (0 < arity (ps[i]).K → ∃ e, 0 ≤ wid ts ps (ps[i]).L.toNat e) ∧ (1 < arity (ps[i]).K → ∃ e, 0 ≤ wid ts ps (ps[i]).R.toNat e) := by
  rw [wid, List.getElem?_eq_getElem hi] at h
  dsimp only at h
  by_cases hu : UsedP ts ps[i]
  · refine ⟨hu, fun ha => ?_, fun ha => ?_⟩
    · rw [if_neg (by simpa using hu), if_pos ha] at h
      by_cases hl : (ps[i]).L.toNat < i
      · rw [dif_pos hl] at h
        by_cases h0 : wid ts ps (ps[i]).L.toNat env < 0
        · rw [if_pos h0] at h; omega
        · exact ⟨env, by omega⟩
      · rw [dif_neg hl, if_pos (by omega)] at h
        omega
    · rw [if_neg (by simpa using hu)] at h
      generalize (if 0 < arity (ps[i]).K then (if _h : (ps[i]).L.toNat < i then wid ts ps (ps[i]).L.toNat env else -1) else 0) = l at h
      by_cases hl0 : l < 0
      · rw [if_pos hl0] at h; omega
      rw [if_neg hl0, if_pos ha] at h
      by_cases hr : (ps[i]).R.toNat < i
      · rw [dif_pos hr] at h
        by_cases h0 : wid ts ps (ps[i]).R.toNat (insideW (ps[i]).K env l) < 0
        · rw [if_pos h0] at h; omega
        · exact ⟨insideW (ps[i]).K env l, by omega⟩
      · rw [dif_neg hr, if_pos (by omega)] at h
        omega
  · rw [if_pos (by simpa using hu)] at h
    omega
theorem frm_fields {ps : List Pn} {i : Nat} (hi : i < ps.length) (h : frm (nds ps) i ≠ -1) : 1 ≤ (ps[i]).K ∧ (ps[i]).K ≤ 10 ∧ (arity (ps[i]).K = 0 → (ps[i]).L = 0) ∧ (arity (ps[i]).K ≠ 2 → (ps[i]).R = 0) := by
  have hk := kidsAt_nds hi
  unfold kidsP at hk
  have hK : arity (ps[i]).K ≠ -1 → 1 ≤ (ps[i]).K ∧ (ps[i]).K ≤ 10 := fun ha => by
    unfold arity at ha
    split at ha
    · omega
    split at ha
    · omega
    split at ha
    · assumption
    · exact absurd rfl ha
  rcases arity_cases (ps[i]).K with ha | ha | ha | ha
  · rw [if_neg (by omega), if_neg (by omega), if_neg (by omega)] at hk
    exact absurd (frm_neg hk) h
  · rw [if_pos ha] at hk
    by_cases hz : (ps[i]).L = 0 ∧ (ps[i]).R = 0
    · exact ⟨(hK (by omega)).1, (hK (by omega)).2, fun _ => hz.1, fun _ => hz.2⟩
    · rw [if_neg hz] at hk
      exact absurd (frm_neg hk) h
  · rw [if_neg (by omega), if_pos ha] at hk
    by_cases hz : (ps[i]).R = 0
    · exact ⟨(hK (by omega)).1, (hK (by omega)).2, fun h => by omega, fun _ => hz⟩
    · rw [if_neg hz] at hk
      exact absurd (frm_neg hk) h
  · exact ⟨(hK (by omega)).1, (hK (by omega)).2, fun h => by omega, fun h => absurd ha h⟩
theorem PlanV.fld {ts : List Tb} {ps : List Pn} (h : PlanV ts ps) : ∀ (i : Nat) (hi : i < ps.length), FldV ts.length ps[i] := by
  have hn := h.some
  have hs : Seg (nds ps) 0 (ps.length - 1 + 1) [((ps.length - 1 : Nat) : Int)] := (frm_seg (f := 0) (by simpa using h.all)).one
  have hall := hs.all (P := fun j => j < ps.length → ∃ e, 0 ≤ wid ts ps j e) (fun j hP x hx hxl => by
    by_cases hj : j < ps.length
    · obtain ⟨e, he⟩ := hP hj
      obtain ⟨_, d1, d2⟩ := wid_down hj he
      have hf := frm_fields hj (frm_all h.all j (by omega))
      rw [kidsAt_nds hj] at hx
      unfold kidsP at hx
      rcases arity_of hf.1 hf.2.1 with ha | ha | ha
      · rw [if_pos ha, if_pos ⟨hf.2.2.1 ha, hf.2.2.2 (by omega)⟩] at hx
        simp at hx
      · rw [if_neg (by omega), if_pos ha, if_pos (hf.2.2.2 (by omega))] at hx
        simp only [List.mem_singleton] at hx
        subst hx
        exact d1 (by omega)
      · rw [if_neg (by omega), if_neg (by omega), if_pos ha] at hx
        rcases List.mem_cons.1 hx with rfl | h'
        · exact d1 (by omega)
        · simp only [List.mem_singleton] at h'
          subst h'
          exact d2 (by omega)
    · have : kidsAt (nds ps) j = [] := by simp [kidsAt, nds, hj]
      rw [this] at hx
      simp at hx) (fun x hx _ => by
    simp only [List.mem_singleton] at hx
    subst hx
    exact ⟨0, by simpa using h.wide⟩)
  intro i hi
  obtain ⟨e, he⟩ := hall i (by omega) (by omega) hi
  have hf := frm_fields hi (frm_all h.all i (by omega))
  exact ⟨hf.1, hf.2.1, (wid_down hi he).1, hf.2.2.1, hf.2.2.2⟩
theorem PlanV.good {ts : List Tb} {ps : List Pn} (h : PlanV ts ps) : Good ts ps := ⟨h.db, h.some, h.fld, h.all⟩
theorem PlanV.width {ts : List Tb} {ps : List Pn} (h : PlanV ts ps) : wid ts ps (ps.length - 1) 0 = iw ts ps (ps.length - 1) := h.good.wid_iw ps.length _ (by have := h.some; omega) (by have := h.some; omega) 0 h.wide
theorem planV_of {ts : List Tb} {ps : List Pn} (h : Good ts ps) (h2 : ps.length ≤ 2000) {G : List Int} (hG : Handed ps (fun env left => env + iw ts ps left.toNat) 0 G) (hC : ∀ (i : Nat) (hi : i < ps.length), CondI ts ps G i ps[i]) : PlanV ts ps :=
  ⟨h.db, h.some, h2, h.ord, (h.iff hG).2 hC⟩
theorem not_planV {ts : List Tb} {ps : List Pn} (h : Good ts ps) {G : List Int} (hG : Handed ps (fun env left => env + iw ts ps left.toNat) 0 G) {i : Nat} (hi : i < ps.length) (hC : ¬ CondI ts ps G i ps[i]) : ¬ PlanV ts ps := fun hv => hC ((h.iff hG).1 hv.wide i hi)
end Go.Proofs.YtahanplikbdccaaDoor
