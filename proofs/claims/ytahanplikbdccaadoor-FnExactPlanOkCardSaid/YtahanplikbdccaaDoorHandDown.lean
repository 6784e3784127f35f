/-
  NUMBERS HANDED DOWN FROM THE ROOT of a plan; the function that is handed in is a closure over one variable.
-/
import Derived.Test.YtahanplikbdccaaDoorPlanWidths
import Derived.Test.YtahanplikbdccaaDoorTakes2
namespace Go.Proofs.YtahanplikbdccaaDoor
open Go Go.RowKit

/-- how great a number may become on its way down -/
def Bd (n : Nat) (xs : List Int) : Prop := ∀ j, 0 ≤ xs.getD j 0 ∧ xs.getD j 0 ≤ 1 + ((n - j : Nat) : Int) * 4294967296
theorem Bd.set {n : Nat} {xs : List Int} (h : Bd n xs) {k : Nat} (hk : k < xs.length) {v : Int} (h0 : 0 ≤ v) (h1 : v ≤ 1 + ((n - k : Nat) : Int) * 4294967296) : Bd n (xs.set k v) := fun j => by
  rw [getD_set hk]
  by_cases e : j = k
  · rw [if_pos e, e]; exact ⟨h0, h1⟩
  · rw [if_neg e]; exact h j
theorem Bd.up {n : Nat} {xs : List Int} (h : Bd n xs) {m k : Nat} (hk : k < m) (hm : m < n) : 0 ≤ xs.getD m 0 ∧ xs.getD m 0 + 4294967296 ≤ 1 + ((n - k : Nat) : Int) * 4294967296 := by
  obtain ⟨h0, h1⟩ := h m
  refine ⟨h0, ?_⟩
  omega
theorem Bd.small {n : Nat} {xs : List Int} (h : Bd n xs) (hn : n ≤ 2000) (m : Nat) : 0 ≤ xs.getD m 0 ∧ xs.getD m 0 ≤ 17592186044416 := by
  obtain ⟨h0, h1⟩ := h m
  refine ⟨h0, ?_⟩
  omega
theorem hand_one {ps : List Pn} {f : Int → Int → Int} {root : Int} {xs : List Int} {m q : Nat} {ts : List Tb} (hG : Good ts ps) (h : HandTo ps f root xs (m + 1)) (hm : m < ps.length) (ha : arity (ps[m]).K = 1) (hL : (ps[m]).L = (q : Int)) (hq : q < m) :
    HandTo ps f root (xs.set q (xs.getD m 0)) m := by
  have hl := h.len
  obtain ⟨i1, i2, i3⟩ := hG.kidsIn hm
  refine h.step hm (by simp [hl]) ⟨i1, i2⟩ (fun x hx => ?_) (fun _ => ?_) (fun h => by omega)
  · rw [getD_set (by omega), if_neg]
    intro e
    subst e
    exact hx (by rw [← hL]; exact i1 (by omega))
  · rw [hL, show ((q : Int)).toNat = q by omega, getD_set (by omega), if_pos rfl]
theorem hand_zero {ps : List Pn} {f : Int → Int → Int} {root : Int} {xs : List Int} {m : Nat} {ts : List Tb} (hG : Good ts ps) (h : HandTo ps f root xs (m + 1)) (hm : m < ps.length) (ha : arity (ps[m]).K = 0) : HandTo ps f root xs m := by
  obtain ⟨i1, i2, i3⟩ := hG.kidsIn hm
  exact h.step hm h.len ⟨i1, i2⟩ (fun x hx => rfl) (fun h => by omega) (fun h => by omega)
theorem hand_two {ps : List Pn} {f : Int → Int → Int} {root : Int} {xs : List Int} {m q j : Nat} {ts : List Tb} (hG : Good ts ps) (h : HandTo ps f root xs (m + 1)) (hm : m < ps.length) (ha : arity (ps[m]).K = 2) (hL : (ps[m]).L = (q : Int)) (hR : (ps[m]).R = (j : Int)) (hq : q < m) (hj : j < m) (hqj : q ≠ j) :
    (¬ perRow (ps[m]).K → HandTo ps f root ((xs.set j (xs.getD m 0)).set q (xs.getD m 0)) m) ∧
    (perRow (ps[m]).K → HandTo ps f root (((xs.set j (xs.getD m 0)).set q (xs.getD m 0)).set j (f (xs.getD m 0) (q : Int))) m) := by
  have hl := h.len
  obtain ⟨i1, i2, i3⟩ := hG.kidsIn hm
  have n1 : ∀ x : Nat, (x : Int) ∉ kidsAt (nds ps) m → x ≠ q ∧ x ≠ j := fun x hx => by
    refine ⟨fun e => ?_, fun e => ?_⟩
    · subst e; exact hx (by rw [← hL]; exact i1 (by omega))
    · subst e; exact hx (by rw [← hR]; exact i2 (by omega))
  refine ⟨fun hp => ?_, fun hp => ?_⟩
  · refine h.step hm (by simp [hl]) ⟨i1, i2⟩ (fun x hx => ?_) (fun _ => ?_) (fun _ => ?_)
    · rw [getD_set (by simp; omega), if_neg (n1 x hx).1, getD_set (by omega), if_neg (n1 x hx).2]
    · rw [hL, show ((q : Int)).toNat = q by omega, getD_set (by simp; omega), if_pos rfl]
    · rw [if_neg hp, hR, show ((j : Int)).toNat = j by omega, getD_set (by simp; omega), if_neg (fun e => hqj e.symm), getD_set (by omega), if_pos rfl]
  · refine h.step hm (by simp [hl]) ⟨i1, i2⟩ (fun x hx => ?_) (fun _ => ?_) (fun _ => ?_)
    · rw [getD_set (by simp; omega), if_neg (n1 x hx).2, getD_set (by simp; omega), if_neg (n1 x hx).1, getD_set (by omega), if_neg (n1 x hx).2]
    · rw [hL, show ((q : Int)).toNat = q by omega, getD_set (by simp; omega), if_neg hqj, getD_set (by simp; omega), if_pos rfl]
    · rw [if_pos hp, hR, hL, show ((j : Int)).toNat = j by omega, getD_set (by simp; omega), if_pos rfl]
end Go.Proofs.YtahanplikbdccaaDoor
