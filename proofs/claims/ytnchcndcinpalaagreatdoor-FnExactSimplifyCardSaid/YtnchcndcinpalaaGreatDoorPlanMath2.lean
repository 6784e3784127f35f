import Derived.Test.YtnchcndcinpalaaGreatDoorQ9
/-
  A PLAN IS VALID just if every node passes, with the widths from the leaves up and the environments from the root down.
-/
namespace Go.Proofs.YtnchcndcinpalaaGreatDoor
open Go Go.RowKit

structure Good (ts : List Tb) (ps : List Pn) : Prop where
  db : DbV ts
  some : 1 ≤ ps.length
  fld : ∀ (i : Nat) (hi : i < ps.length), FldV ts.length ps[i]
  ord : frm (nds ps) (ps.length - 1) = 0
theorem Good.frm {ts : List Tb} {ps : List Pn} (h : Good ts ps) {i : Nat} (hi : i < ps.length) : frm (nds ps) i ≠ -1 := frm_all h.ord i (by omega)
theorem Good.kids {ts : List Tb} {ps : List Pn} (h : Good ts ps) {i : Nat} (hi : i < ps.length) :
    (0 < arity (ps[i]).K → 0 ≤ (ps[i]).L ∧ (ps[i]).L.toNat < i) ∧ (1 < arity (ps[i]).K → 0 ≤ (ps[i]).R ∧ (ps[i]).R.toNat < i) := by
  have hF := h.fld i hi
  have hf := h.frm hi
  rcases arity_of hF.1 hF.2.1 with ha | ha | ha
  · exact ⟨fun h => by omega, fun h => by omega⟩
  · obtain ⟨j, e, e1, _, _⟩ := kid_one' hi hf ha
    exact ⟨fun _ => by omega, fun h => by omega⟩
  · obtain ⟨q, j, e, e0, e1, e2, _⟩ := kid_two' hi hf ha
    exact ⟨fun _ => by omega, fun _ => by omega⟩
theorem Good.kidsIn {ts : List Tb} {ps : List Pn} (h : Good ts ps) {i : Nat} (hi : i < ps.length) :
    (0 < arity (ps[i]).K → (ps[i]).L ∈ kidsAt (nds ps) i) ∧ (1 < arity (ps[i]).K → (ps[i]).R ∈ kidsAt (nds ps) i) ∧ ∀ x ∈ kidsAt (nds ps) i, (0 < arity (ps[i]).K ∧ x = (ps[i]).L) ∨ (1 < arity (ps[i]).K ∧ x = (ps[i]).R) := by
  have hF := h.fld i hi
  rw [kidsAt_nds hi]
  unfold kidsP
  rcases arity_of hF.1 hF.2.1 with ha | ha | ha
  · have h1 := hF.2.2.2.1 ha
    have h2 := hF.2.2.2.2 (by omega)
    rw [if_pos ha, if_pos ⟨h1, h2⟩]
    exact ⟨fun h => by omega, fun h => by omega, fun x hx => by simp at hx⟩
  · have h2 := hF.2.2.2.2 (by omega)
    rw [if_neg (by omega), if_pos ha, if_pos h2]
    exact ⟨fun _ => by simp, fun h => by omega, fun x hx => Or.inl ⟨by omega, by simpa using hx⟩⟩
  · rw [if_neg (by omega), if_neg (by omega), if_pos ha]
    refine ⟨fun _ => by simp, fun _ => by simp, fun x hx => ?_⟩
    rcases List.mem_cons.1 hx with h' | h'
    · exact Or.inl ⟨by omega, h'⟩
    · exact Or.inr ⟨by omega, by simpa using h'⟩
theorem arity_k {k : Int} : (k = 5 ∨ k = 6 ∨ k = 7 ∨ k = 8 ∨ k = 10 → arity k = 2) ∧ (k = 3 ∨ k = 4 ∨ k = 9 → arity k = 1) ∧ (k = 1 ∨ k = 2 → arity k = 0) := by
  refine ⟨fun h => ?_, fun h => ?_, fun h => ?_⟩
  · rcases h with rfl | rfl | rfl | rfl | rfl <;> rfl
  · rcases h with rfl | rfl | rfl <;> rfl
  · rcases h with rfl | rfl <;> rfl
theorem stepW_congr (ts : List Tb) (p : Pn) {l r l' r' : Int} (hl : 0 < arity p.K → l = l') (hr : 1 < arity p.K → r = r') : stepW ts p l r = stepW ts p l' r' := by
  unfold stepW
  obtain ⟨a1, a2, _⟩ := arity_k (k := p.K)
  split
  · rfl
  split
  · rfl
  split
  · have := a1 (by omega); rw [hl (by omega), hr (by omega)]
  split
  · have := a1 (by omega); rw [hl (by omega)]
  split
  · rename_i h
    have : 0 < arity p.K := by
      by_cases e : p.K = 10
      · have := a1 (by omega); omega
      · have := a2 (by omega); omega
    rw [hl this]
  · rfl
theorem exsV_congr {nt : Nat} {p : Pn} (hF : FldV nt p) (env : Int) {l r l' r' : Int} (hl : 0 < arity p.K → l = l') (hr : 1 < arity p.K → r = r') : ExsV p env l r ↔ ExsV p env l' r' := by
  unfold ExsV
  obtain ⟨a1, a2, _⟩ := arity_k (k := p.K)
  obtain ⟨k1, k2, ⟨_, _, _, _, _, u6⟩, _⟩ := hF
  split
  · rename_i hu
    have h0 : 0 < arity p.K := by
      rcases hu.1 with h | h
      · have := a2 (by omega); omega
      · have := a1 (by omega); omega
    rw [hl h0]
    by_cases hp : perRow p.K
    · have := a1 (by unfold perRow at hp; omega)
      rw [hr (by omega)]
    · simp only [if_neg hp]
  · by_cases h4 : p.K = 4
    · have := a2 (by omega); rw [hl (by omega)]
    · have e1 : p.Exs = [] := List.eq_nil_of_length_eq_zero (by omega)
      simp [e1]
theorem Good.iw {ts : List Tb} {ps : List Pn} (h : Good ts ps) {i : Nat} (hi : i < ps.length) :
    iw ts ps i = stepW ts ps[i] (if 0 < arity (ps[i]).K then iw ts ps (ps[i]).L.toNat else 0) (if 1 < arity (ps[i]).K then iw ts ps (ps[i]).R.toNat else 0) := by
  obtain ⟨kl, kr⟩ := h.kids hi
  rw [iw_at ts hi]
  refine stepW_congr ts _ (fun h => ?_) (fun h => ?_)
  · rw [if_pos h, if_pos (kl h).2]
  · rw [if_pos h, if_pos (kr h).2]
theorem Good.wid {ts : List Tb} {ps : List Pn} (h : Good ts ps) {i : Nat} (hi : i < ps.length) (env : Int) : ∀ l r, l = (if 0 < arity (ps[i]).K then wid ts ps (ps[i]).L.toNat env else 0) → r = (if 1 < arity (ps[i]).K then wid ts ps (ps[i]).R.toNat (insideW (ps[i]).K env l) else 0) →
    (0 ≤ wid ts ps i env ↔ (0 ≤ l ∧ 0 ≤ r ∧ env + stepW ts ps[i] l r ≤ 200 ∧ ((ps[i]).K = 10 → l = r) ∧ ExsV ps[i] env l r)) ∧ (0 ≤ wid ts ps i env → wid ts ps i env = stepW ts ps[i] l r) := by
  intro l r el er
  obtain ⟨kl, kr⟩ := h.kids hi
  have hw := wid_at ts hi env (h.fld i hi).2.2.1 (fun h => (kl h).2) (fun h => (kr h).2)
  rw [← el, ← er] at hw
  rw [hw]
  by_cases h1 : l < 0
  · rw [if_pos h1]
    exact ⟨⟨fun h => by omega, fun h => by omega⟩, fun h => by omega⟩
  rw [if_neg h1]
  by_cases h2 : r < 0
  · rw [if_pos h2]
    exact ⟨⟨fun h => by omega, fun h => by omega⟩, fun h => by omega⟩
  rw [if_neg h2]
  obtain ⟨n1, n2, _⟩ := nodeW_iff (env := env) (h.fld i hi) (by omega : 0 ≤ l) (by omega : 0 ≤ r) h.db (fun h => by rw [el, if_neg (by omega)])
  exact ⟨⟨fun h => ⟨by omega, by omega, n1.1 h⟩, fun h => n1.2 h.2.2⟩, n2⟩
theorem Good.wid_iw {ts : List Tb} {ps : List Pn} (h : Good ts ps) : ∀ (n i : Nat), i < n → i < ps.length → ∀ env, 0 ≤ Go.Proofs.YtnchcndcinpalaaGreatDoor.wid ts ps i env → Go.Proofs.YtnchcndcinpalaaGreatDoor.wid ts ps i env = Go.Proofs.YtnchcndcinpalaaGreatDoor.iw ts ps i := by
  intro n
  induction n with
  | zero => intro i hi; omega
  | succ n ih =>
    intro i hin hi env hw
    obtain ⟨kl, kr⟩ := h.kids hi
    obtain ⟨h1, h2⟩ := h.wid hi env _ _ rfl rfl
    obtain ⟨l0, r0, _⟩ := h1.1 hw
    rw [h2 hw, h.iw hi]
    refine stepW_congr ts _ (fun ha => ?_) (fun ha => ?_)
    · rw [if_pos ha] at l0 ⊢
      rw [if_pos ha]
      exact ih _ (by have := (kl ha).2; omega) (by have := (kl ha).2; omega) _ l0
    · rw [if_pos ha] at r0 ⊢
      rw [if_pos ha]
      exact ih _ (by have := (kr ha).2; omega) (by have := (kr ha).2; omega) _ r0
/-- a node that is valid in its environment passes, and its kids are valid in theirs -/
theorem Good.down {ts : List Tb} {ps : List Pn} (h : Good ts ps) {G : List Int} (hG : Handed ps (fun env left => env + Go.Proofs.YtnchcndcinpalaaGreatDoor.iw ts ps left.toNat) 0 G) {i : Nat} (hi : i < ps.length) (hw : 0 ≤ Go.Proofs.YtnchcndcinpalaaGreatDoor.wid ts ps i (G.getD i 0)) :
    CondI ts ps G i ps[i] ∧ (0 < arity (ps[i]).K → 0 ≤ Go.Proofs.YtnchcndcinpalaaGreatDoor.wid ts ps (ps[i]).L.toNat (G.getD (ps[i]).L.toNat 0)) ∧ (1 < arity (ps[i]).K → 0 ≤ Go.Proofs.YtnchcndcinpalaaGreatDoor.wid ts ps (ps[i]).R.toNat (G.getD (ps[i]).R.toNat 0)) := by
  obtain ⟨kl, kr⟩ := h.kids hi
  obtain ⟨h1, h2⟩ := h.wid hi (G.getD i 0) _ _ rfl rfl
  obtain ⟨l0, r0, c1, c2, c3⟩ := h1.1 hw
  have hs := h2 hw
  have hiw := h.wid_iw (i + 1) i (by omega) hi _ hw
  have el : 0 < arity (ps[i]).K → (if 0 < arity (ps[i]).K then Go.Proofs.YtnchcndcinpalaaGreatDoor.wid ts ps (ps[i]).L.toNat (G.getD i 0) else 0) = Go.Proofs.YtnchcndcinpalaaGreatDoor.iw ts ps (ps[i]).L.toNat := fun ha => by
    rw [if_pos ha] at l0 ⊢
    exact h.wid_iw i _ (kl ha).2 (by have := (kl ha).2; omega) _ l0
  have er : 1 < arity (ps[i]).K → (if 1 < arity (ps[i]).K then Go.Proofs.YtnchcndcinpalaaGreatDoor.wid ts ps (ps[i]).R.toNat (insideW (ps[i]).K (G.getD i 0) (if 0 < arity (ps[i]).K then Go.Proofs.YtnchcndcinpalaaGreatDoor.wid ts ps (ps[i]).L.toNat (G.getD i 0) else 0)) else 0) = Go.Proofs.YtnchcndcinpalaaGreatDoor.iw ts ps (ps[i]).R.toNat := fun ha => by
    rw [if_pos ha] at r0 ⊢
    exact h.wid_iw i _ (kr ha).2 (by have := (kr ha).2; omega) _ r0
  have ein : 1 < arity (ps[i]).K → insideW (ps[i]).K (G.getD i 0) (if 0 < arity (ps[i]).K then Go.Proofs.YtnchcndcinpalaaGreatDoor.wid ts ps (ps[i]).L.toNat (G.getD i 0) else 0) = G.getD (ps[i]).R.toNat 0 := fun ha => by
    rw [el (by omega), hG.right i hi ha]
    rfl
  refine ⟨⟨by rw [← hiw, hs]; exact c1, fun hk => ?_, (exsV_congr (h.fld i hi) _ el er).1 c3⟩, fun ha => ?_, fun ha => ?_⟩
  · have ha := arity_k.1 (show _ from by omega : (ps[i]).K = 5 ∨ (ps[i]).K = 6 ∨ (ps[i]).K = 7 ∨ (ps[i]).K = 8 ∨ (ps[i]).K = 10)
    rw [← el (by omega), ← er (by omega)]
    exact c2 hk
  · rw [if_pos ha] at l0
    rw [hG.left i hi ha]
    exact l0
  · rw [ein ha, if_pos ha] at r0
    exact r0
theorem Good.up {ts : List Tb} {ps : List Pn} (h : Good ts ps) {G : List Int} (hG : Handed ps (fun env left => env + Go.Proofs.YtnchcndcinpalaaGreatDoor.iw ts ps left.toNat) 0 G) (hC : ∀ (i : Nat) (hi : i < ps.length), CondI ts ps G i ps[i]) :
    ∀ (n i : Nat), i < n → i < ps.length → 0 ≤ Go.Proofs.YtnchcndcinpalaaGreatDoor.wid ts ps i (G.getD i 0) := by
  intro n
  induction n with
  | zero => intro i hi; omega
  | succ n ih =>
    intro i hin hi
    obtain ⟨kl, kr⟩ := h.kids hi
    have l0 : 0 < arity (ps[i]).K → 0 ≤ Go.Proofs.YtnchcndcinpalaaGreatDoor.wid ts ps (ps[i]).L.toNat (G.getD i 0) := fun ha => by
      have := ih (ps[i]).L.toNat (by have := (kl ha).2; omega) (by have := (kl ha).2; omega)
      rwa [hG.left i hi ha] at this
    have el : 0 < arity (ps[i]).K → (if 0 < arity (ps[i]).K then Go.Proofs.YtnchcndcinpalaaGreatDoor.wid ts ps (ps[i]).L.toNat (G.getD i 0) else 0) = Go.Proofs.YtnchcndcinpalaaGreatDoor.iw ts ps (ps[i]).L.toNat := fun ha => by
      rw [if_pos ha]
      exact h.wid_iw i _ (kl ha).2 (by have := (kl ha).2; omega) _ (l0 ha)
    have ein : 1 < arity (ps[i]).K → insideW (ps[i]).K (G.getD i 0) (if 0 < arity (ps[i]).K then Go.Proofs.YtnchcndcinpalaaGreatDoor.wid ts ps (ps[i]).L.toNat (G.getD i 0) else 0) = G.getD (ps[i]).R.toNat 0 := fun ha => by
      rw [el (by omega), hG.right i hi ha]
      rfl
    have r0 : 1 < arity (ps[i]).K → 0 ≤ Go.Proofs.YtnchcndcinpalaaGreatDoor.wid ts ps (ps[i]).R.toNat (G.getD (ps[i]).R.toNat 0) := fun ha => ih (ps[i]).R.toNat (by have := (kr ha).2; omega) (by have := (kr ha).2; omega)
    have er : 1 < arity (ps[i]).K → (if 1 < arity (ps[i]).K then Go.Proofs.YtnchcndcinpalaaGreatDoor.wid ts ps (ps[i]).R.toNat (insideW (ps[i]).K (G.getD i 0) (if 0 < arity (ps[i]).K then Go.Proofs.YtnchcndcinpalaaGreatDoor.wid ts ps (ps[i]).L.toNat (G.getD i 0) else 0)) else 0) = Go.Proofs.YtnchcndcinpalaaGreatDoor.iw ts ps (ps[i]).R.toNat := fun ha => by
      rw [if_pos ha, ein ha]
      exact h.wid_iw i _ (kr ha).2 (by have := (kr ha).2; omega) _ (r0 ha)
    obtain ⟨h1, _⟩ := h.wid hi (G.getD i 0) _ _ rfl rfl
    obtain ⟨c1, c2, c3⟩ := hC i hi
    refine h1.2 ⟨?_, ?_, ?_, fun hk => ?_, (exsV_congr (h.fld i hi) _ el er).2 c3⟩
    · split
      · exact l0 (by assumption)
      · omega
    · split
      · rename_i ha
        rw [ein ha]
        exact r0 ha
      · omega
    · rw [h.iw hi] at c1
      rw [stepW_congr ts ps[i] (l' := if 0 < arity (ps[i]).K then Go.Proofs.YtnchcndcinpalaaGreatDoor.iw ts ps (ps[i]).L.toNat else 0) (r' := if 1 < arity (ps[i]).K then Go.Proofs.YtnchcndcinpalaaGreatDoor.iw ts ps (ps[i]).R.toNat else 0) (fun ha => by rw [el ha, if_pos ha]) (fun ha => by rw [er ha, if_pos ha])]
      exact c1
    · have ha := arity_k.1 (show _ from by omega : (ps[i]).K = 5 ∨ (ps[i]).K = 6 ∨ (ps[i]).K = 7 ∨ (ps[i]).K = 8 ∨ (ps[i]).K = 10)
      rw [er (by omega), el (by omega)]
      exact c2 hk
theorem Good.iff {ts : List Tb} {ps : List Pn} (h : Good ts ps) {G : List Int} (hG : Handed ps (fun env left => env + Go.Proofs.YtnchcndcinpalaaGreatDoor.iw ts ps left.toNat) 0 G) :
    0 ≤ Go.Proofs.YtnchcndcinpalaaGreatDoor.wid ts ps (ps.length - 1) 0 ↔ ∀ (i : Nat) (hi : i < ps.length), CondI ts ps G i ps[i] := by
  have hn := h.some
  constructor
  · intro hw i hi
    have hroot : 0 ≤ Go.Proofs.YtnchcndcinpalaaGreatDoor.wid ts ps (ps.length - 1) (G.getD (ps.length - 1) 0) := by rw [hG.top]; exact hw
    have hs : Seg (nds ps) 0 (ps.length - 1 + 1) [((ps.length - 1 : Nat) : Int)] := (frm_seg (f := 0) (by simpa using h.ord)).one
    have := hs.all (P := fun j => j < ps.length → 0 ≤ Go.Proofs.YtnchcndcinpalaaGreatDoor.wid ts ps j (G.getD j 0)) (fun j hP x hx hxl => by
      by_cases hj : j < ps.length
      · obtain ⟨_, d1, d2⟩ := h.down hG hj (hP hj)
        rcases (h.kidsIn hj).2.2 x hx with ⟨ha, rfl⟩ | ⟨ha, rfl⟩
        · exact d1 ha
        · exact d2 ha
      · have : kidsAt (nds ps) j = [] := by simp [kidsAt, nds, hj]
        rw [this] at hx
        simp at hx) (fun x hx _ => by
      simp only [List.mem_singleton] at hx
      subst hx
      simpa using hroot) i (by omega) (by omega) hi
    exact (h.down hG hi this).1
  · intro hC
    have := h.up hG hC ps.length (ps.length - 1) (by omega) (by omega)
    rwa [hG.top] at this
/-- how wide a node may be -/
theorem Good.iw_le {ts : List Tb} {ps : List Pn} (h : Good ts ps) (hx : ∀ p ∈ ps, p.Exs.length ≤ 1048576) : ∀ (n i : Nat), i < n → i < ps.length → 0 ≤ Go.Proofs.YtnchcndcinpalaaGreatDoor.iw ts ps i ∧ Go.Proofs.YtnchcndcinpalaaGreatDoor.iw ts ps i ≤ ((i : Int) - Go.Proofs.YtnchcndcinpalaaGreatDoor.frm (nds ps) i + 1) * 1048576 := by
  intro n
  induction n with
  | zero => intro i hi; omega
  | succ n ih =>
    intro i hin hi
    have hF := h.fld i hi
    have hf := h.frm hi
    have hfl := frm_le (nds ps) i
    rw [h.iw hi]
    have hxl := hx _ (List.getElem_mem hi)
    have hcols := fun (hk : (ps[i]).K = 2) => colsAt_pos h.db (hF.2.2.1.2.1 hk).1 (hF.2.2.1.2.1 hk).2
    obtain ⟨a1, a2, a3⟩ := arity_k (k := (ps[i]).K)
    have k1 := hF.1
    have k2 := hF.2.1
    rcases arity_of hF.1 hF.2.1 with ha | ha | ha
    · have hk : (ps[i]).K = 1 ∨ (ps[i]).K = 2 := by
        by_cases e1 : (ps[i]).K = 3 ∨ (ps[i]).K = 4 ∨ (ps[i]).K = 9
        · have := a2 e1; omega
        · by_cases e2 : (ps[i]).K = 5 ∨ (ps[i]).K = 6 ∨ (ps[i]).K = 7 ∨ (ps[i]).K = 8 ∨ (ps[i]).K = 10
          · have := a1 e2; omega
          · omega
      unfold stepW
      rcases hk with hk | hk
      · simp [hk]; omega
      · have := hcols hk
        simp [hk]; omega
    · obtain ⟨j, e, e1, _, e3⟩ := kid_one' hi hf ha
      have := ih j (by omega) (by omega)
      rw [e3] at this
      rw [if_pos (by omega), e1, show ((j : Int)).toNat = j by omega]
      generalize Go.Proofs.YtnchcndcinpalaaGreatDoor.iw ts ps j = l at *
      generalize Go.Proofs.YtnchcndcinpalaaGreatDoor.frm (nds ps) i = f at *
      have hk : (ps[i]).K = 3 ∨ (ps[i]).K = 4 ∨ (ps[i]).K = 9 := by
        by_cases e1 : (ps[i]).K = 1 ∨ (ps[i]).K = 2
        · have := a3 e1; omega
        · by_cases e2 : (ps[i]).K = 5 ∨ (ps[i]).K = 6 ∨ (ps[i]).K = 7 ∨ (ps[i]).K = 8 ∨ (ps[i]).K = 10
          · have := a1 e2; omega
          · omega
      unfold stepW
      rcases hk with hk | hk | hk <;> simp [hk] <;> omega
    · obtain ⟨q, j, e, e0, e1, e2, e3, e4⟩ := kid_two' hi hf ha
      have hq := ih q (by omega) (by omega)
      have hj := ih j (by omega) (by omega)
      rw [e3] at hq
      rw [e4] at hj
      rw [if_pos (by omega), if_pos (by omega), e1, e2, show ((q : Int)).toNat = q by omega, show ((j : Int)).toNat = j by omega]
      generalize Go.Proofs.YtnchcndcinpalaaGreatDoor.iw ts ps q = l at *
      generalize Go.Proofs.YtnchcndcinpalaaGreatDoor.iw ts ps j = r at *
      generalize Go.Proofs.YtnchcndcinpalaaGreatDoor.frm (nds ps) i = f at *
      have hk : (ps[i]).K = 5 ∨ (ps[i]).K = 6 ∨ (ps[i]).K = 7 ∨ (ps[i]).K = 8 ∨ (ps[i]).K = 10 := by
        by_cases e1 : (ps[i]).K = 1 ∨ (ps[i]).K = 2
        · have := a3 e1; omega
        · by_cases e2 : (ps[i]).K = 3 ∨ (ps[i]).K = 4 ∨ (ps[i]).K = 9
          · have := a2 e2; omega
          · omega
      unfold stepW
      rcases hk with hk | hk | hk | hk | hk <;> simp [hk] <;> omega
end Go.Proofs.YtnchcndcinpalaaGreatDoor
