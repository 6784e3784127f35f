import Derived.Test.YtafmlbojmmdcdaaMergeMath
import Derived.Test.YtafmlbojmmdcdaaCopyRow
namespace Go.Proofs.Ytafmlbojmmdcdaa
theorem vcmp_neg (x y : V2) : vcmp y x = - vcmp x y := by
  obtain ⟨b, n⟩ := x
  obtain ⟨c, m⟩ := y
  cases b <;> cases c <;> simp [vcmp, cmpv]
  by_cases h1 : n < m
  · rw [if_neg (by omega), if_pos h1, if_pos h1]; rfl
  · by_cases h2 : m < n
    · rw [if_pos h2, if_neg h1, if_pos h2]
    · rw [if_neg h2, if_neg h1, if_neg h1, if_neg h2]; rfl
theorem vcmp_cases (x y : V2) : vcmp x y = -1 ∨ vcmp x y = 0 ∨ vcmp x y = 1 := by
  unfold vcmp cmpv
  repeat' split
  all_goals simp
theorem vcmp_zero (x y : V2) : vcmp x y = 0 ↔ clnV x = clnV y := by
  obtain ⟨b, n⟩ := x
  obtain ⟨c, m⟩ := y
  cases b <;> cases c <;> simp [vcmp, cmpv, clnV]
  by_cases h1 : n < m
  · rw [if_pos h1]; omega
  · rw [if_neg h1]
    by_cases h2 : m < n
    · rw [if_pos h2]; omega
    · rw [if_neg h2]; omega
theorem vcmp_trans (x y z : V2) (h1 : vcmp x y ≤ 0) (h2 : vcmp y z ≤ 0) : vcmp x z ≤ 0 ∧ (vcmp x z = 0 → vcmp x y = 0 ∧ vcmp y z = 0) := by
  obtain ⟨b, n⟩ := x
  obtain ⟨c, m⟩ := y
  obtain ⟨d, k⟩ := z
  have hc : ∀ n m : Int, (cmpv n m = -1 ∧ n < m) ∨ (cmpv n m = 0 ∧ n = m) ∨ (cmpv n m = 1 ∧ m < n) := fun n m => by
    unfold cmpv
    split
    · exact Or.inl ⟨rfl, by omega⟩
    · split
      · exact Or.inr (Or.inr ⟨rfl, by omega⟩)
      · exact Or.inr (Or.inl ⟨rfl, by omega⟩)
  have := hc n m
  have := hc m k
  have := hc n k
  cases b <;> cases c <;> cases d <;> simp [vcmp] at h1 h2 ⊢
  all_goals omega
theorem vcmp_clean (x y : V2) : vcmp (clnV x) y = vcmp x y := by
  obtain ⟨b, n⟩ := x
  cases b <;> simp [vcmp, clnV]
theorem clnV_clnV (x : V2) : clnV (clnV x) = clnV x := by
  obtain ⟨b, n⟩ := x
  cases b <;> simp [clnV]
theorem rcmp_neg : ∀ (x y : List V2), rcmp y x = - rcmp x y
  | [], [] => by simp [rcmp]
  | [], _ :: _ => by simp [rcmp]
  | _ :: _, [] => by simp [rcmp]
  | x :: xs, y :: ys => by
    have := vcmp_neg x y
    have := rcmp_neg xs ys
    simp only [rcmp]
    by_cases h : vcmp x y = 0
    · rw [if_pos (by omega), if_pos h]; assumption
    · rw [if_neg (by omega), if_neg h]; assumption
theorem rcmp_zero : ∀ (x y : List V2), rcmp x y = 0 ↔ x.map clnV = y.map clnV
  | [], [] => by simp [rcmp]
  | [], _ :: _ => by simp [rcmp]
  | _ :: _, [] => by simp [rcmp]
  | x :: xs, y :: ys => by
    have h1 := vcmp_zero x y
    have h2 := rcmp_zero xs ys
    simp only [rcmp, List.map_cons, List.cons.injEq]
    rw [← h1, ← h2]
    by_cases h : vcmp x y = 0
    · rw [if_pos h]; simp [h]
    · rw [if_neg h]; simp [h]
theorem rcmp_trans : ∀ (x y z : List V2), rcmp x y ≤ 0 → rcmp y z ≤ 0 → rcmp x z ≤ 0
  | [], _, [], _, _ => by simp [rcmp]
  | [], _, _ :: _, _, _ => by simp [rcmp]
  | _ :: _, [], _, h, _ => by simp [rcmp] at h
  | _ :: _, _ :: _, [], _, h => by simp [rcmp] at h
  | x :: xs, y :: ys, z :: zs, h1, h2 => by
    have ih := rcmp_trans xs ys zs
    simp only [rcmp] at h1 h2 ⊢
    have a1 : vcmp x y ≤ 0 := by split at h1 <;> omega
    have a2 : vcmp y z ≤ 0 := by split at h2 <;> omega
    have a3 := vcmp_trans x y z a1 a2
    by_cases h : vcmp x z = 0
    · obtain ⟨b1, b2⟩ := a3.2 h
      rw [if_pos b1] at h1
      rw [if_pos b2] at h2
      rw [if_pos h]
      exact ih h1 h2
    · rw [if_neg h]; exact a3.1
theorem rcmp_clean : ∀ (x y : List V2), rcmp (x.map clnV) y = rcmp x y
  | [], [] => rfl
  | [], _ :: _ => rfl
  | _ :: _, [] => rfl
  | x :: xs, y :: ys => by simp only [List.map_cons, rcmp, vcmp_clean, rcmp_clean xs ys]
def Upw (l : List (List V2)) : Prop := l.Pairwise fun a b => rcmp a b ≤ 0
theorem mrgF_ord : ∀ (n : Nat) (a b : List (List V2)), a.length + b.length ≤ n → Upw a → Upw b → Upw (mrgF (fun x => x) n a b)
  | 0, a, b, hn, ha, hb => by
    have : a = [] := List.eq_nil_of_length_eq_zero (by omega)
    have : b = [] := List.eq_nil_of_length_eq_zero (by omega)
    subst_vars
    exact List.Pairwise.nil
  | _ + 1, [], b, _, _, hb => by simpa [mrgF] using hb
  | _ + 1, x :: a, [], _, ha, _ => by simpa [mrgF] using ha
  | n + 1, x :: a, y :: b, hn, ha, hb => by
    simp only [List.length_cons] at hn
    have ha' := List.pairwise_cons.1 ha
    have hb' := List.pairwise_cons.1 hb
    simp only [mrgF]
    split
    · rename_i h
      refine List.pairwise_cons.2 ⟨fun z hz => ?_, mrgF_ord n a (y :: b) (by simp; omega) ha'.2 hb⟩
      have := (mrgF_perm (fun x => x) n a (y :: b)).mem_iff.1 hz
      rcases List.mem_append.1 this with h1 | h1
      · exact ha'.1 z h1
      · rcases List.mem_cons.1 h1 with rfl | h2
        · exact h
        · exact rcmp_trans _ _ _ h (hb'.1 z h2)
    · rename_i h
      have h' : rcmp y x ≤ 0 := by have := rcmp_neg x y; omega
      refine List.pairwise_cons.2 ⟨fun z hz => ?_, mrgF_ord n (x :: a) b (by simp; omega) ha hb'.2⟩
      have := (mrgF_perm (fun x => x) n (x :: a) b).mem_iff.1 hz
      rcases List.mem_append.1 this with h1 | h1
      · rcases List.mem_cons.1 h1 with rfl | h2
        · exact h'
        · exact rcmp_trans _ _ _ h' (ha'.1 z h2)
      · exact hb'.1 z h1
theorem msF_ord : ∀ (n : Nat) (l : List (List V2)), l.length ≤ n → Upw (msF (fun x => x) n l)
  | 0, l, h => by
    have : l = [] := List.eq_nil_of_length_eq_zero (by omega)
    subst this
    exact List.Pairwise.nil
  | n + 1, l, h => by
    simp only [msF]
    split
    · rename_i h1
      match l, h1 with
      | [], _ => exact List.Pairwise.nil
      | [x], _ => exact List.pairwise_singleton _ x
      | _ :: _ :: _, h2 => simp only [List.length_cons] at h2; omega
    · refine mrgF_ord _ _ _ ?_ (msF_ord n _ (by simp; omega)) (msF_ord n _ (by simp; omega))
      rw [msF_length, msF_length]; simp; omega
/-- rows in order, alike in number, are the same -/
theorem ord_eq : ∀ (a b : List (List V2)), (∀ x ∈ a, x.map clnV = x) → Upw a → Upw b → List.Perm a b → a = b
  | [], b, _, _, _, hp => (List.Perm.nil_eq hp)
  | x :: a, [], _, _, _, hp => by simp at hp
  | x :: a, y :: b, hc, ha, hb, hp => by
    have ha' := List.pairwise_cons.1 ha
    have hb' := List.pairwise_cons.1 hb
    have hcy : y.map clnV = y := hc y (hp.mem_iff.2 (List.mem_cons_self ..))
    have hcx : x.map clnV = x := hc x (List.mem_cons_self ..)
    have e : x = y := by
      have m1 : x ∈ y :: b := hp.mem_iff.1 (List.mem_cons_self ..)
      have m2 : y ∈ x :: a := hp.mem_iff.2 (List.mem_cons_self ..)
      rcases List.mem_cons.1 m1 with h | h
      · exact h
      · rcases List.mem_cons.1 m2 with k | k
        · exact k.symm
        · have p1 := hb'.1 x h
          have p2 := ha'.1 y k
          have := rcmp_neg x y
          have h0 : rcmp x y = 0 := by omega
          rw [← hcx, ← hcy]
          exact (rcmp_zero x y).1 h0
    subst e
    rw [ord_eq a b (fun z hz => hc z (List.mem_cons_of_mem _ hz)) ha'.2 hb'.2 (List.perm_cons .. |>.1 hp)]
/-- how many rows are alike with a row -/
def alike (rows : List (List V2)) (y : List V2) : Nat := rows.countP fun x => decide (rcmp x y = 0)
theorem alike_perm {a b : List (List V2)} (h : List.Perm a b) (y : List V2) : alike a y = alike b y := h.countP_eq _
theorem alike_clean (a : List (List V2)) (y : List V2) : alike (a.map (List.map clnV)) y = alike a y := by
  unfold alike
  rw [List.countP_map]
  congr 1
  funext x
  simp [rcmp_clean]
/-- the rows of a list in order, clean -/
def srt (rows : List (List V2)) : List (List V2) := msF (fun x => x) rows.length (rows.map (List.map clnV))
theorem srt_perm (rows : List (List V2)) : List.Perm (srt rows) (rows.map (List.map clnV)) := msF_perm _ _ _
theorem srt_length (rows : List (List V2)) : (srt rows).length = rows.length := by simp [srt, msF_length]
theorem srt_ord (rows : List (List V2)) : Upw (srt rows) := msF_ord _ _ (by simp)
theorem srt_clean (rows : List (List V2)) : ∀ x ∈ srt rows, x.map clnV = x := fun x hx => by
  have := (srt_perm rows).mem_iff.1 hx
  obtain ⟨y, _, rfl⟩ := List.mem_map.1 this
  rw [List.map_map]
  congr 1
  funext z
  exact clnV_clnV z
theorem srt_alike (rows : List (List V2)) (y : List V2) : alike (srt rows) y = alike rows y := by rw [alike_perm (srt_perm rows), alike_clean]
theorem srt_same {a b : List (List V2)} (h : List.Perm a b) : srt a = srt b :=
  ord_eq _ _ (srt_clean a) (srt_ord a) (srt_ord b) ((srt_perm a).trans ((h.map _).trans (srt_perm b).symm))
theorem srt_srt (a : List (List V2)) : srt (srt a) = srt a := by
  refine ord_eq _ _ (srt_clean _) (srt_ord _) (srt_ord a) ((srt_perm _).trans ?_)
  have : (srt a).map (List.map clnV) = srt a := by
    conv => rhs; rw [← List.map_id (srt a)]
    exact List.map_congr_left (srt_clean a)
  rw [this]
end Go.Proofs.Ytafmlbojmmdcdaa
