import Derived.Test.YtafmlbojmmdcdaaDoorEvalEx
namespace Go.Proofs.YtafmlbojmmdcdaaDoor
theorem tr_v (t : Int) (h : t = 0 ∨ t = 1 ∨ t = 2) : tr (vB t) (vI t) = t := by
  rcases h with rfl | rfl | rfl <;> simp [tr, vB, vI]
def n3 (x : V2) : V2 := vv (2 - tr x.1 x.2)
def a3 (x y : V2) : V2 := vv (min (tr x.1 x.2) (tr y.1 y.2))
def o3 (x y : V2) : V2 := vv (max (tr x.1 x.2) (tr y.1 y.2))
def c3 (op : Int) (x y : V2) : V2 := vv (cmp3 op x.1 y.1 x.2 y.2)
theorem cmp3_cases (op : Int) (b c : Bool) (n m : Int) : cmp3 op b c n m = 0 ∨ cmp3 op b c n m = 1 ∨ cmp3 op b c n m = 2 := by
  unfold cmp3
  split
  · simp
  · split <;> simp
theorem law1 (x y : V2) : o3 (n3 x) (n3 y) = n3 (a3 x y) := by
  have hx := tr_cases x.1 x.2
  have hy := tr_cases y.1 y.2
  unfold o3 n3 a3 vv
  simp only
  rw [tr_v _ (by omega), tr_v _ (by omega), tr_v _ (by omega)]
  rw [show max (2 - tr x.1 x.2) (2 - tr y.1 y.2) = 2 - min (tr x.1 x.2) (tr y.1 y.2) by omega]
theorem cmp_not (p q : Int) (h : ∀ n m, holds q n m = !holds p n m) (hp : 1 ≤ p ∧ p ≤ 6) (hq : 1 ≤ q ∧ q ≤ 6) (b c : Bool) (n m : Int) : 2 - cmp3 p b c n m = cmp3 q b c n m := by
  unfold cmp3
  by_cases e : b = true ∨ c = true
  · rw [if_pos (by rcases e with e | e <;> simp [e]), if_pos (by rcases e with e | e <;> simp [e])]; rfl
  · have k1 : ¬ (b = true ∨ c = true ∨ p < 1 ∨ 6 < p) := by
      rintro (k | k | k | k)
      · exact e (Or.inl k)
      · exact e (Or.inr k)
      · omega
      · omega
    have k2 : ¬ (b = true ∨ c = true ∨ q < 1 ∨ 6 < q) := by
      rintro (k | k | k | k)
      · exact e (Or.inl k)
      · exact e (Or.inr k)
      · omega
      · omega
    rw [if_neg k1, if_neg k2, h n m]
    cases holds p n m <;> simp
theorem holds36 (n m : Int) : holds 6 n m = !holds 3 n m := by unfold holds; split <;> (try split) <;> simp
theorem holds12 (n m : Int) : holds 2 n m = !holds 1 n m := by unfold holds; split <;> (try split) <;> simp
theorem law2 (x y : V2) : n3 (c3 3 x y) = c3 6 x y := by
  have h := cmp3_cases 3 x.1 y.1 x.2 y.2
  unfold n3 c3 vv
  simp only
  rw [tr_v _ h, cmp_not 3 6 holds36 (by omega) (by omega)]
theorem law3 (x y : V2) : n3 (c3 1 x y) = c3 2 x y := by
  have h := cmp3_cases 1 x.1 y.1 x.2 y.2
  unfold n3 c3 vv
  simp only
  rw [tr_v _ h, cmp_not 1 2 holds12 (by omega) (by omega)]
theorem law4 (x y : V2) : o3 (c3 3 x y) (c3 1 x y) = c3 4 x y := by
  unfold o3 c3 vv
  simp only
  rw [tr_v _ (cmp3_cases ..), tr_v _ (cmp3_cases ..)]
  have : max (cmp3 3 x.1 y.1 x.2 y.2) (cmp3 1 x.1 y.1 x.2 y.2) = cmp3 4 x.1 y.1 x.2 y.2 := by
    unfold cmp3
    by_cases e : x.1 = true ∨ y.1 = true
    · rw [if_pos (by rcases e with e | e <;> simp [e]), if_pos (by rcases e with e | e <;> simp [e]), if_pos (by rcases e with e | e <;> simp [e])]; rfl
    · have k : ∀ p : Int, 1 ≤ p → p ≤ 6 → ¬ (x.1 = true ∨ y.1 = true ∨ p < 1 ∨ 6 < p) := by
        rintro p h1 h6 (k | k | k | k)
        · exact e (Or.inl k)
        · exact e (Or.inr k)
        · omega
        · omega
      rw [if_neg (k 3 (by omega) (by omega)), if_neg (k 1 (by omega) (by omega)), if_neg (k 4 (by omega) (by omega))]
      have h4 : holds 4 x.2 y.2 = (holds 3 x.2 y.2 || holds 1 x.2 y.2) := by unfold holds; split <;> (try split) <;> simp
      rw [h4]
      cases holds 3 x.2 y.2 <;> cases holds 1 x.2 y.2 <;> rfl
  rw [this]
theorem tk7 (W : Int) : tk 7 0 W = 1 := by simp [tk]
theorem exOk_not {W : Int} {ops : List O2} (h : exOk W ops = true) (hl : ops.length < 5000) : exOk W (ops ++ [(7, 0)]) = true := by
  simp only [exOk, decide_eq_true_eq] at h ⊢
  obtain ⟨h1, h2, h3⟩ := h
  refine ⟨h1, by simp; omega, ?_⟩
  rw [fwd_append, h3]
  simp [fwd, tk7]
theorem evx_not {row : List V2} {ops : List O2} (h : exOk row.length ops = true) (hl : ops.length < 5000) : evx row (ops ++ [(7, 0)]) = n3 (evx row ops) := by
  have hn := exOk_not h hl
  have hF : fwd row.length ops 0 = some 1 := by simp only [exOk, decide_eq_true_eq] at h; exact h.2.2
  have hlen := stk_length row ops ops.length 1 (Nat.le_refl _) (by rw [List.take_length]; exact hF)
  have e1 : stk row ops ops.length = runS row ops [] := by unfold stk; rw [List.take_length]
  have e2 : stk row (ops ++ [(7, 0)]) (ops ++ [(7, 0)]).length = stepS row (7, 0) (runS row ops []) := by
    unfold stk
    rw [List.take_length, runS_append]
    rfl
  rw [e1] at hlen
  unfold evx
  rw [if_pos hn, if_pos h, e2, e1]
  obtain ⟨y, hy⟩ : ∃ y, runS row ops [] = [y] := List.length_eq_one_iff.1 hlen
  rw [hy]
  simp [stepS, tk7, opv, n3]
end Go.Proofs.YtafmlbojmmdcdaaDoor
