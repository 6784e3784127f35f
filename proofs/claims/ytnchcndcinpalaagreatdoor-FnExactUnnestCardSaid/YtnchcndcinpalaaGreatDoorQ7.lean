import Derived.Test.YtnchcndcinpalaaGreatDoorQ6
import Derived.Test.YtnchcndcinpalaaGreatDoorQ1
import Derived.OwnWalk
namespace Go.Proofs.YtnchcndcinpalaaGreatDoor
open Go Go.RowKit
structure Good (ts : List Tb) (ps : List Pn) : Prop where
  db : DbV ts
  some : 1 ≤ ps.length
  fld : ∀ (i : Nat) (hi : i < ps.length), FldV ts.length ps[i]
  ord : frm (nds ps) (ps.length - 1) = 0
theorem Good.frm {ts : List Tb} {ps : List Pn} (h : Good ts ps) {i : Nat} (hi : i < ps.length) : frm (nds ps) i ≠ -1 := frm_all h.ord i (by omega)
theorem Good.kids {ts : List Tb} {ps : List Pn} (h : Good ts ps) {i : Nat} (hi : i < ps.length) :
    (0 < arity (ps[i]).K → 0 ≤ (ps[i]).L ∧ (ps[i]).L.toNat < i) ∧ (1 < arity (ps[i]).K → 0 ≤ (ps[i]).R ∧ (ps[i]).R.toNat < i) := by
  have hF := h.fld i hi
  have hf := h.frm hi
  rcases arity_of hF.1 hF.2.1 with ha | ha | ha
  · exact ⟨fun h => by omega, fun h => by omega⟩
  · obtain ⟨j, e, e1, _, _⟩ := kid_one' hi hf ha
    exact ⟨fun _ => by omega, fun h => by omega⟩
  · obtain ⟨q, j, e, e0, e1, e2, _⟩ := kid_two' hi hf ha
    exact ⟨fun _ => by omega, fun _ => by omega⟩
theorem Good.kidsIn {ts : List Tb} {ps : List Pn} (h : Good ts ps) {i : Nat} (hi : i < ps.length) :
    (0 < arity (ps[i]).K → (ps[i]).L ∈ kidsAt (nds ps) i) ∧ (1 < arity (ps[i]).K → (ps[i]).R ∈ kidsAt (nds ps) i) ∧ ∀ x ∈ kidsAt (nds ps) i, (0 < arity (ps[i]).K ∧ x = (ps[i]).L) ∨ (1 < arity (ps[i]).K ∧ x = (ps[i]).R) := by
  have hF := h.fld i hi
  rw [kidsAt_nds hi]
  unfold kidsP
  rcases arity_of hF.1 hF.2.1 with ha | ha | ha
  · have h1 := hF.2.2.2.1 ha
    have h2 := hF.2.2.2.2 (by omega)
    rw [if_pos ha, if_pos ⟨h1, h2⟩]
    exact ⟨fun h => by omega, fun h => by omega, fun x hx => by simp at hx⟩
  · have h2 := hF.2.2.2.2 (by omega)
    rw [if_neg (by omega), if_pos ha, if_pos h2]
    exact ⟨fun _ => by simp, fun h => by omega, fun x hx => Or.inl ⟨by omega, by simpa using hx⟩⟩
  · rw [if_neg (by omega), if_neg (by omega), if_pos ha]
    refine ⟨fun _ => by simp, fun _ => by simp, fun x hx => ?_⟩
    rcases List.mem_cons.1 hx with h' | h'
    · exact Or.inl ⟨by omega, h'⟩
    · exact Or.inr ⟨by omega, by simpa using h'⟩
theorem arity_k {k : Int} : (k = 5 ∨ k = 6 ∨ k = 7 ∨ k = 8 ∨ k = 10 → arity k = 2) ∧ (k = 3 ∨ k = 4 ∨ k = 9 → arity k = 1) ∧ (k = 1 ∨ k = 2 → arity k = 0) := by
  refine ⟨fun h => ?_, fun h => ?_, fun h => ?_⟩
  · rcases h with rfl | rfl | rfl | rfl | rfl <;> rfl
  · rcases h with rfl | rfl | rfl <;> rfl
  · rcases h with rfl | rfl <;> rfl
theorem stepW_congr (ts : List Tb) (p : Pn) {l r l' r' : Int} (hl : 0 < arity p.K → l = l') (hr : 1 < arity p.K → r = r') : stepW ts p l r = stepW ts p l' r' := by
  unfold stepW
  obtain ⟨a1, a2, _⟩ := arity_k (k := p.K)
  split
  · rfl
  split
  · rfl
  split
  · have := a1 (by omega); rw [hl (by omega), hr (by omega)]
  split
  · have := a1 (by omega); rw [hl (by omega)]
  split
  · rename_i h
    have : 0 < arity p.K := by
      by_cases e : p.K = 10
      · have := a1 (by omega); omega
      · have := a2 (by omega); omega
    rw [hl this]
  · rfl
theorem exsV_congr {nt : Nat} {p : Pn} (hF : FldV nt p) (env : Int) {l r l' r' : Int} (hl : 0 < arity p.K → l = l') (hr : 1 < arity p.K → r = r') : ExsV p env l r ↔ ExsV p env l' r' := by
  unfold ExsV
  obtain ⟨a1, a2, _⟩ := arity_k (k := p.K)
  obtain ⟨k1, k2, ⟨_, _, _, _, _, u6⟩, _⟩ := hF
  split
  · rename_i hu
    have h0 : 0 < arity p.K := by
      rcases hu.1 with h | h
      · have := a2 (by omega); omega
      · have := a1 (by omega); omega
    rw [hl h0]
    by_cases hp : perRow p.K
    · have := a1 (by unfold perRow at hp; omega)
      rw [hr (by omega)]
    · simp only [if_neg hp]
  · by_cases h4 : p.K = 4
    · have := a2 (by omega); rw [hl (by omega)]
    · have e1 : p.Exs = [] := List.eq_nil_of_length_eq_zero (by omega)
      simp [e1]
theorem Good.iw {ts : List Tb} {ps : List Pn} (h : Good ts ps) {i : Nat} (hi : i < ps.length) :
    iw ts ps i = stepW ts ps[i] (if 0 < arity (ps[i]).K then iw ts ps (ps[i]).L.toNat else 0) (if 1 < arity (ps[i]).K then iw ts ps (ps[i]).R.toNat else 0) := by
  obtain ⟨kl, kr⟩ := h.kids hi
  rw [iw_at ts hi]
  refine stepW_congr ts _ (fun h => ?_) (fun h => ?_)
  · rw [if_pos h, if_pos (kl h).2]
  · rw [if_pos h, if_pos (kr h).2]
theorem Good.wid {ts : List Tb} {ps : List Pn} (h : Good ts ps) {i : Nat} (hi : i < ps.length) (env : Int) : ∀ l r, l = (if 0 < arity (ps[i]).K then wid ts ps (ps[i]).L.toNat env else 0) → r = (if 1 < arity (ps[i]).K then wid ts ps (ps[i]).R.toNat (insideW (ps[i]).K env l) else 0) →
    (0 ≤ wid ts ps i env ↔ (0 ≤ l ∧ 0 ≤ r ∧ env + stepW ts ps[i] l r ≤ 200 ∧ ((ps[i]).K = 10 → l = r) ∧ ExsV ps[i] env l r)) ∧ (0 ≤ wid ts ps i env → wid ts ps i env = stepW ts ps[i] l r) := by
  intro l r el er
  obtain ⟨kl, kr⟩ := h.kids hi
  have hw := wid_at ts hi env (h.fld i hi).2.2.1 (fun h => (kl h).2) (fun h => (kr h).2)
  rw [← el, ← er] at hw
  rw [hw]
  by_cases h1 : l < 0
  · rw [if_pos h1]
    exact ⟨⟨fun h => by omega, fun h => by omega⟩, fun h => by omega⟩
  rw [if_neg h1]
  by_cases h2 : r < 0
  · rw [if_pos h2]
    exact ⟨⟨fun h => by omega, fun h => by omega⟩, fun h => by omega⟩
  rw [if_neg h2]
  obtain ⟨n1, n2, _⟩ := nodeW_iff (env := env) (h.fld i hi) (by omega : 0 ≤ l) (by omega : 0 ≤ r) h.db (fun h => by rw [el, if_neg (by omega)])
  exact ⟨⟨fun h => ⟨by omega, by omega, n1.1 h⟩, fun h => n1.2 h.2.2⟩, n2⟩
theorem Good.wid_iw {ts : List Tb} {ps : List Pn} (h : Good ts ps) : ∀ (n i : Nat), i < n → i < ps.length → ∀ env, 0 ≤ Go.Proofs.YtnchcndcinpalaaGreatDoor.wid ts ps i env → Go.Proofs.YtnchcndcinpalaaGreatDoor.wid ts ps i env = Go.Proofs.YtnchcndcinpalaaGreatDoor.iw ts ps i := by
  intro n
  induction n with
  | zero => intro i hi; omega
  | succ n ih =>
    intro i hin hi env hw
    obtain ⟨kl, kr⟩ := h.kids hi
    obtain ⟨h1, h2⟩ := h.wid hi env _ _ rfl rfl
    obtain ⟨l0, r0, _⟩ := h1.1 hw
    rw [h2 hw, h.iw hi]
    refine stepW_congr ts _ (fun ha => ?_) (fun ha => ?_)
    · rw [if_pos ha] at l0 ⊢
      rw [if_pos ha]
      exact ih _ (by have := (kl ha).2; omega) (by have := (kl ha).2; omega) _ l0
    · rw [if_pos ha] at r0 ⊢
      rw [if_pos ha]
      exact ih _ (by have := (kr ha).2; omega) (by have := (kr ha).2; omega) _ r0
theorem Good.down {ts : List Tb} {ps : List Pn} (h : Good ts ps) {G : List Int} (hG : Handed ps (fun env left => env + Go.Proofs.YtnchcndcinpalaaGreatDoor.iw ts ps left.toNat) 0 G) {i : Nat} (hi : i < ps.length) (hw : 0 ≤ Go.Proofs.YtnchcndcinpalaaGreatDoor.wid ts ps i (G.getD i 0)) :
    CondI ts ps G i ps[i] ∧ (0 < arity (ps[i]).K → 0 ≤ Go.Proofs.YtnchcndcinpalaaGreatDoor.wid ts ps (ps[i]).L.toNat (G.getD (ps[i]).L.toNat 0)) ∧ (1 < arity (ps[i]).K → 0 ≤ Go.Proofs.YtnchcndcinpalaaGreatDoor.wid ts ps (ps[i]).R.toNat (G.getD (ps[i]).R.toNat 0)) := by
  obtain ⟨kl, kr⟩ := h.kids hi
  obtain ⟨h1, h2⟩ := h.wid hi (G.getD i 0) _ _ rfl rfl
  obtain ⟨l0, r0, c1, c2, c3⟩ := h1.1 hw
  have hs := h2 hw
  have hiw := h.wid_iw (i + 1) i (by omega) hi _ hw
  have el : 0 < arity (ps[i]).K → (if 0 < arity (ps[i]).K then Go.Proofs.YtnchcndcinpalaaGreatDoor.wid ts ps (ps[i]).L.toNat (G.getD i 0) else 0) = Go.Proofs.YtnchcndcinpalaaGreatDoor.iw ts ps (ps[i]).L.toNat := fun ha => by
    rw [if_pos ha] at l0 ⊢
    exact h.wid_iw i _ (kl ha).2 (by have := (kl ha).2; omega) _ l0
  have er : 1 < arity (ps[i]).K → (if 1 < arity (ps[i]).K then Go.Proofs.YtnchcndcinpalaaGreatDoor.wid ts ps (ps[i]).R.toNat (insideW (ps[i]).K (G.getD i 0) (if 0 < arity (ps[i]).K then Go.Proofs.YtnchcndcinpalaaGreatDoor.wid ts ps (ps[i]).L.toNat (G.getD i 0) else 0)) else 0) = Go.Proofs.YtnchcndcinpalaaGreatDoor.iw ts ps (ps[i]).R.toNat := fun ha => by
    rw [if_pos ha] at r0 ⊢
    exact h.wid_iw i _ (kr ha).2 (by have := (kr ha).2; omega) _ r0
  have ein : 1 < arity (ps[i]).K → insideW (ps[i]).K (G.getD i 0) (if 0 < arity (ps[i]).K then Go.Proofs.YtnchcndcinpalaaGreatDoor.wid ts ps (ps[i]).L.toNat (G.getD i 0) else 0) = G.getD (ps[i]).R.toNat 0 := fun ha => by
    rw [el (by omega), hG.right i hi ha]
    rfl
  refine ⟨⟨by rw [← hiw, hs]; exact c1, fun hk => ?_, (exsV_congr (h.fld i hi) _ el er).1 c3⟩, fun ha => ?_, fun ha => ?_⟩
  · have ha := arity_k.1 (show _ from by omega : (ps[i]).K = 5 ∨ (ps[i]).K = 6 ∨ (ps[i]).K = 7 ∨ (ps[i]).K = 8 ∨ (ps[i]).K = 10)
    rw [← el (by omega), ← er (by omega)]
    exact c2 hk
  · rw [if_pos ha] at l0
    rw [hG.left i hi ha]
    exact l0
  · rw [ein ha, if_pos ha] at r0
    exact r0
theorem Good.up {ts : List Tb} {ps : List Pn} (h : Good ts ps) {G : List Int} (hG : Handed ps (fun env left => env + Go.Proofs.YtnchcndcinpalaaGreatDoor.iw ts ps left.toNat) 0 G) (hC : ∀ (i : Nat) (hi : i < ps.length), CondI ts ps G i ps[i]) :
    ∀ (n i : Nat), i < n → i < ps.length → 0 ≤ Go.Proofs.YtnchcndcinpalaaGreatDoor.wid ts ps i (G.getD i 0) := by
  intro n
  induction n with
  | zero => intro i hi; omega
  | succ n ih =>
    intro i hin hi
    obtain ⟨kl, kr⟩ := h.kids hi
    have l0 : 0 < arity (ps[i]).K → 0 ≤ Go.Proofs.YtnchcndcinpalaaGreatDoor.wid ts ps (ps[i]).L.toNat (G.getD i 0) := fun ha => by
      have := ih (ps[i]).L.toNat (by have := (kl ha).2; omega) (by have := (kl ha).2; omega)
      rwa [hG.left i hi ha] at this
    have el : 0 < arity (ps[i]).K → (if 0 < arity (ps[i]).K then Go.Proofs.YtnchcndcinpalaaGreatDoor.wid ts ps (ps[i]).L.toNat (G.getD i 0) else 0) = Go.Proofs.YtnchcndcinpalaaGreatDoor.iw ts ps (ps[i]).L.toNat := fun ha => by
      rw [if_pos ha]
      exact h.wid_iw i _ (kl ha).2 (by have := (kl ha).2; omega) _ (l0 ha)
    have ein : 1 < arity (ps[i]).K → insideW (ps[i]).K (G.getD i 0) (if 0 < arity (ps[i]).K then Go.Proofs.YtnchcndcinpalaaGreatDoor.wid ts ps (ps[i]).L.toNat (G.getD i 0) else 0) = G.getD (ps[i]).R.toNat 0 := fun ha => by
      rw [el (by omega), hG.right i hi ha]
      rfl
    have r0 : 1 < arity (ps[i]).K → 0 ≤ Go.Proofs.YtnchcndcinpalaaGreatDoor.wid ts ps (ps[i]).R.toNat (G.getD (ps[i]).R.toNat 0) := fun ha => ih (ps[i]).R.toNat (by have := (kr ha).2; omega) (by have := (kr ha).2; omega)
    have er : 1 < arity (ps[i]).K → (if 1 < arity (ps[i]).K then Go.Proofs.YtnchcndcinpalaaGreatDoor.wid ts ps (ps[i]).R.toNat (insideW (ps[i]).K (G.getD i 0) (if 0 < arity (ps[i]).K then Go.Proofs.YtnchcndcinpalaaGreatDoor.wid ts ps (ps[i]).L.toNat (G.getD i 0) else 0)) else 0) = Go.Proofs.YtnchcndcinpalaaGreatDoor.iw ts ps (ps[i]).R.toNat := fun ha => by
      rw [if_pos ha, ein ha]
      exact h.wid_iw i _ (kr ha).2 (by have := (kr ha).2; omega) _ (r0 ha)
    obtain ⟨h1, _⟩ := h.wid hi (G.getD i 0) _ _ rfl rfl
    obtain ⟨c1, c2, c3⟩ := hC i hi
    refine h1.2 ⟨?_, ?_, ?_, fun hk => ?_, (exsV_congr (h.fld i hi) _ el er).2 c3⟩
    · split
      · exact l0 (by assumption)
      · omega
    · split
      · rename_i ha
        rw [ein ha]
        exact r0 ha
      · omega
    · rw [h.iw hi] at c1
      rw [stepW_congr ts ps[i] (l' := if 0 < arity (ps[i]).K then Go.Proofs.YtnchcndcinpalaaGreatDoor.iw ts ps (ps[i]).L.toNat else 0) (r' := if 1 < arity (ps[i]).K then Go.Proofs.YtnchcndcinpalaaGreatDoor.iw ts ps (ps[i]).R.toNat else 0) (fun ha => by rw [el ha, if_pos ha]) (fun ha => by rw [er ha, if_pos ha])]
      exact c1
    · have ha := arity_k.1 (show _ from by omega : (ps[i]).K = 5 ∨ (ps[i]).K = 6 ∨ (ps[i]).K = 7 ∨ (ps[i]).K = 8 ∨ (ps[i]).K = 10)
      rw [er (by omega), el (by omega)]
      exact c2 hk
theorem Good.iff {ts : List Tb} {ps : List Pn} (h : Good ts ps) {G : List Int} (hG : Handed ps (fun env left => env + Go.Proofs.YtnchcndcinpalaaGreatDoor.iw ts ps left.toNat) 0 G) :
    0 ≤ Go.Proofs.YtnchcndcinpalaaGreatDoor.wid ts ps (ps.length - 1) 0 ↔ ∀ (i : Nat) (hi : i < ps.length), CondI ts ps G i ps[i] := by
  have hn := h.some
  constructor
  · intro hw i hi
    have hroot : 0 ≤ Go.Proofs.YtnchcndcinpalaaGreatDoor.wid ts ps (ps.length - 1) (G.getD (ps.length - 1) 0) := by rw [hG.top]; exact hw
    have hs : Seg (nds ps) 0 (ps.length - 1 + 1) [((ps.length - 1 : Nat) : Int)] := (frm_seg (f := 0) (by simpa using h.ord)).one
    have := hs.all (P := fun j => j < ps.length → 0 ≤ Go.Proofs.YtnchcndcinpalaaGreatDoor.wid ts ps j (G.getD j 0)) (fun j hP x hx hxl => by
      by_cases hj : j < ps.length
      · obtain ⟨_, d1, d2⟩ := h.down hG hj (hP hj)
        rcases (h.kidsIn hj).2.2 x hx with ⟨ha, rfl⟩ | ⟨ha, rfl⟩
        · exact d1 ha
        · exact d2 ha
      · have : kidsAt (nds ps) j = [] := by simp [kidsAt, nds, hj]
        rw [this] at hx
        simp at hx) (fun x hx _ => by
      simp only [List.mem_singleton] at hx
      subst hx
      simpa using hroot) i (by omega) (by omega) hi
    exact (h.down hG hi this).1
  · intro hC
    have := h.up hG hC ps.length (ps.length - 1) (by omega) (by omega)
    rwa [hG.top] at this
theorem Good.iw_le {ts : List Tb} {ps : List Pn} (h : Good ts ps) (hx : ∀ p ∈ ps, p.Exs.length ≤ 1048576) : ∀ (n i : Nat), i < n → i < ps.length → 0 ≤ Go.Proofs.YtnchcndcinpalaaGreatDoor.iw ts ps i ∧ Go.Proofs.YtnchcndcinpalaaGreatDoor.iw ts ps i ≤ ((i : Int) - Go.Proofs.YtnchcndcinpalaaGreatDoor.frm (nds ps) i + 1) * 1048576 := by
  intro n
  induction n with
  | zero => intro i hi; omega
  | succ n ih =>
    intro i hin hi
    have hF := h.fld i hi
    have hf := h.frm hi
    have hfl := frm_le (nds ps) i
    rw [h.iw hi]
    have hxl := hx _ (List.getElem_mem hi)
    have hcols := fun (hk : (ps[i]).K = 2) => colsAt_pos h.db (hF.2.2.1.2.1 hk).1 (hF.2.2.1.2.1 hk).2
    obtain ⟨a1, a2, a3⟩ := arity_k (k := (ps[i]).K)
    have k1 := hF.1
    have k2 := hF.2.1
    rcases arity_of hF.1 hF.2.1 with ha | ha | ha
    · have hk : (ps[i]).K = 1 ∨ (ps[i]).K = 2 := by
        by_cases e1 : (ps[i]).K = 3 ∨ (ps[i]).K = 4 ∨ (ps[i]).K = 9
        · have := a2 e1; omega
        · by_cases e2 : (ps[i]).K = 5 ∨ (ps[i]).K = 6 ∨ (ps[i]).K = 7 ∨ (ps[i]).K = 8 ∨ (ps[i]).K = 10
          · have := a1 e2; omega
          · omega
      unfold stepW
      rcases hk with hk | hk
      · simp [hk]; omega
      · have := hcols hk
        simp [hk]; omega
    · obtain ⟨j, e, e1, _, e3⟩ := kid_one' hi hf ha
      have := ih j (by omega) (by omega)
      rw [e3] at this
      rw [if_pos (by omega), e1, show ((j : Int)).toNat = j by omega]
      generalize Go.Proofs.YtnchcndcinpalaaGreatDoor.iw ts ps j = l at *
      generalize Go.Proofs.YtnchcndcinpalaaGreatDoor.frm (nds ps) i = f at *
      have hk : (ps[i]).K = 3 ∨ (ps[i]).K = 4 ∨ (ps[i]).K = 9 := by
        by_cases e1 : (ps[i]).K = 1 ∨ (ps[i]).K = 2
        · have := a3 e1; omega
        · by_cases e2 : (ps[i]).K = 5 ∨ (ps[i]).K = 6 ∨ (ps[i]).K = 7 ∨ (ps[i]).K = 8 ∨ (ps[i]).K = 10
          · have := a1 e2; omega
          · omega
      unfold stepW
      rcases hk with hk | hk | hk <;> simp [hk] <;> omega
    · obtain ⟨q, j, e, e0, e1, e2, e3, e4⟩ := kid_two' hi hf ha
      have hq := ih q (by omega) (by omega)
      have hj := ih j (by omega) (by omega)
      rw [e3] at hq
      rw [e4] at hj
      rw [if_pos (by omega), if_pos (by omega), e1, e2, show ((q : Int)).toNat = q by omega, show ((j : Int)).toNat = j by omega]
      generalize Go.Proofs.YtnchcndcinpalaaGreatDoor.iw ts ps q = l at *
      generalize Go.Proofs.YtnchcndcinpalaaGreatDoor.iw ts ps j = r at *
      generalize Go.Proofs.YtnchcndcinpalaaGreatDoor.frm (nds ps) i = f at *
      have hk : (ps[i]).K = 5 ∨ (ps[i]).K = 6 ∨ (ps[i]).K = 7 ∨ (ps[i]).K = 8 ∨ (ps[i]).K = 10 := by
        by_cases e1 : (ps[i]).K = 1 ∨ (ps[i]).K = 2
        · have := a3 e1; omega
        · by_cases e2 : (ps[i]).K = 3 ∨ (ps[i]).K = 4 ∨ (ps[i]).K = 9
          · have := a2 e2; omega
          · omega
      unfold stepW
      rcases hk with hk | hk | hk | hk | hk <;> simp [hk] <;> omega
end Go.Proofs.YtnchcndcinpalaaGreatDoor
namespace Go.Proofs.YtnchcndcinpalaaGreatDoor
open Go Go.RowKit
theorem make_ops (n : Nat) (hn : n ≤ 1048576) (w : World) :
    (Instr.makeSlice 64 (.int .i64 (n : Int)) (.int .i64 (n : Int))).run Tryz.prog w = .ok (.slice (some ⟨w.heap.size, 0, none⟩) n n) (w.alloc (.cells (madeCells #[.int .i64 0, .int .i64 0] (n * 2)) 72)) := by
  obtain ⟨i, hi, hz⟩ := Option.map_eq_some_iff.1 (show (Tryz.prog.info? 72).map (fun i => (i.zero, i.size, i.bytes)) = some (some (.agg #[.int .i64 0, .int .i64 0]), 2, 16) by kernel_rfl)
  simp only [Prod.mk.injEq] at hz
  have := run_make (P := Tryz.prog) w 64 72 i _ Tryz.underlying64 hi hz.1 .i64 .i64 (n : Int) (n : Int) (by omega) (by omega) (by rw [hz.2.2]; omega) (by omega)
  rw [hz.2.1] at this
  simpa [Value.cells] using this
theorem make_ops0 (w : World) : (Instr.makeSlice 64 (.int .i64 0) (.int .i64 0)).run Tryz.prog w = .ok (.slice (some ⟨w.heap.size, 0, none⟩) 0 0) (w.alloc (.cells #[] 72)) := by
  have := make_ops 0 (by omega) w
  rw [show madeCells #[.int .i64 0, .int .i64 0] (0 * 2) = #[] from Array.eq_empty_of_size_eq_zero (by simp [size_madeCells])] at this
  simpa using this
set_option maxHeartbeats 1000000 in
theorem toOpS_calls (v : Value) (xs : List O2) (w : World) (hv : IsOps w v xs) (hn : xs.length ≤ 1048576) :
    Calls Tryz.prog 98 #[v] w fun e w' => ∃ g, e = .returned (.slice (some ⟨g, 0, none⟩) xs.length xs.length) ∧ w.heap.size ≤ g ∧ OwnOps w' g xs.length xs ∧ Below w.heap.size w w' := by
  rcases hv with ⟨rfl, a, cap, rfl⟩ | ⟨g, off, cap, rfl, hcap, hg, hr⟩
  · have hmk := make_ops0
    clear hn
    go_enter Tryz.func98, Tryz.ntmps98
    go_wp2
    go_loopw [4] (fun i wr => i = .int .i64 0 ∧ OwnOps wr w.heap.size 0 [] ∧ Below w.heap.size w wr) (fun _ _ => 0)
    case atStart => exact ⟨rfl, OwnOps.made w 0 #[] _ rfl, bA (Below.refl _ _) _⟩
    case round =>
      obtain ⟨rfl, ho, hb⟩ := hrel
      go_wp2
      go_ret
      exact ⟨_, rfl, Nat.le_refl _, ho, hb⟩
  · have hmk := make_ops xs.length hn
    have hO : Hid (OwnOps (w.alloc (.cells (madeCells #[.int .i64 0, .int .i64 0] (xs.length * 2)) 72)) w.heap.size xs.length []) := OwnOps.made w _ _ _ (by simp [size_madeCells])
    go_enter Tryz.func98, Tryz.ntmps98
    go_wp2
    go_loopw [4] (fun i wr => ∃ k : Nat, k ≤ xs.length ∧ i = .int .i64 k ∧ OwnOps wr w.heap.size xs.length (xs.take k) ∧ Below w.heap.size w wr) (fun i _ => xs.length - (intOf i).toNat)
    case atStart => exact ⟨0, Nat.zero_le _, rfl, by simpa using hO.out, bA (Below.refl _ _) _⟩
    case round =>
      clear hO hmk
      obtain ⟨k, hk, rfl, ho, hb⟩ := hrel
      by_cases hlt : k < xs.length
      · obtain ⟨e0, e1⟩ := (hr.of hg hb).at k hlt
        go_wp2_with fail
        refine (toOp_calls _ _ _).mono ?_; rintro e w1 ⟨rfl, hb1⟩
        have d1 := bT hb hb1
        have ho1 := ho.of hb1
        have hN : Hid (OwnOps ((w1.setCell ⟨w.heap.size, k * 2, none⟩ (.int .i64 xs[k].1)).setCell ⟨w.heap.size, k * 2 + 1, none⟩ (.int .i64 xs[k].2)) w.heap.size xs.length (xs.take (k + 1))) := ho1.next hlt hlt
        obtain ⟨u0, hu0⟩ := ho1.all (k * 2) (by omega)
        obtain ⟨u1, hu1⟩ := ho1.all (k * 2 + 1) (by omega)
        have hf := ho1.frz
        clear ho ho1 hb1
        go_wp2
        go_roundw
        case rel => exact ⟨k + 1, by omega, by go_num, hN.out, (d1.setCell (Nat.le_refl _) _).setCell (Nat.le_refl _) _⟩
        case measure => simp [intOf]; omega
      · obtain rfl : k = xs.length := by omega
        rw [List.take_length] at ho
        go_wp2
        go_ret
        exact ⟨_, rfl, Nat.le_refl _, ho, hb⟩
theorem szOpS_calls (v : Value) (xs : List O2) (left : Int) (w : World) (hv : IsOps w v xs) (hl : xs.length ≤ maxLen) (h0 : 0 ≤ left) (h1 : left ≤ 1048576) :
    Calls Tryz.prog 90 #[v, .int .i64 left] w fun e w' => e = .returned (.int .i64 (if left < xs.length then -1 else left - xs.length)) ∧ w' = w := by
  unfold maxLen at hl
  obtain ⟨a, cap, rfl⟩ : ∃ a cap, v = .slice a xs.length cap := by
    rcases hv with ⟨rfl, a, cap, rfl⟩ | ⟨g, off, cap, rfl, _⟩
    · exact ⟨a, cap, rfl⟩
    · exact ⟨_, cap, rfl⟩
  by_cases h : left < xs.length
  · rw [if_pos h]
    go_enter Tryz.func90, Tryz.ntmps90
    go_wp2
    go_ret
    exact ⟨rfl, rfl⟩
  · rw [if_neg h]
    go_enter Tryz.func90, Tryz.ntmps90
    go_wp2
    go_ret
    exact ⟨rfl, rfl⟩
end Go.Proofs.YtnchcndcinpalaaGreatDoor
namespace Go.Proofs.YtnchcndcinpalaaGreatDoor
open Go Go.RowKit
theorem bwd_zero (W : Int) (ops : List O2) (j : Nat) : bwd W ops j 0 = (j : Int) := by
  cases j <;> simp [bwd]
theorem bwd_none (W : Int) (ops : List O2) (m : Int) (h : 0 < m) : bwd W ops 0 m = -1 := by simp [bwd, h]
theorem bwd_bad (W : Int) (ops : List O2) (j : Nat) (m : Int) (h : 0 < m) (hj : j < ops.length) (ht : tk ops[j].1 ops[j].2 W < 0) : bwd W ops (j + 1) m = -1 := by
  simp [bwd, h, hj, ht]
theorem bwd_step (W : Int) (ops : List O2) (j : Nat) (m : Int) (h : 0 < m) (hj : j < ops.length) (ht : ¬ tk ops[j].1 ops[j].2 W < 0) : bwd W ops (j + 1) m = bwd W ops j (m - 1 + tk ops[j].1 ops[j].2 W) := by
  simp [bwd, h, hj, ht]
set_option maxHeartbeats 1000000 in
theorem l1Start_calls (ops : List O2) (g off cap : Nat) (W : Int) (k : Nat) (i0 : Int) (w : World) (hg : g < w.heap.size) (hr : OpsAt w g off ops) (b1 : ops.length ≤ 1048576) (hk : k ≤ ops.length) (hi : i0 = (k : Int) - 1) :
    Calls Tryz.prog 119 #[.slice (some ⟨g, off, none⟩) ops.length cap, .int .i64 i0, .int .i64 W] w fun e w' => e = .returned (.int .i64 (bwd W ops k 1)) ∧ Below w.heap.size w w' := by
  have HI : Hid (i0 = (k : Int) - 1) := hi
  clear hi
  go_enter Tryz.func119, Tryz.ntmps119
  go_wp2
  go_loopw [1, 7] (fun i nd wr => ∃ iv m : Int, i = .int .i64 iv ∧ nd = .int .i64 m ∧ -1 ≤ iv ∧ iv < ops.length ∧ 0 ≤ m ∧ m ≤ (ops.length : Int) - iv ∧ bwd W ops k 1 = bwd W ops (iv + 1).toNat m ∧ Below w.heap.size w wr) (fun i _ _ => (intOf i + 1).toNat)
  case atStart =>
    have := HI.out
    exact ⟨i0, 1, rfl, rfl, by omega, by omega, by omega, by omega, by rw [show (i0 + 1).toNat = k by omega], Below.refl _ _⟩
  case round =>
    obtain ⟨iv, m, rfl, rfl, h0, h1, h2, h3, hB, hb⟩ := hrel
    have HB : Hid (bwd W ops k 1 = bwd W ops (iv + 1).toNat m) := hB
    clear hB HI
    by_cases hm : 0 < m
    · by_cases hneg : iv < 0
      · have HE : Hid (bwd W ops k 1 = -1) := by
          show _ = _
          rw [HB.out, show (iv + 1).toNat = 0 by omega, bwd_none W ops m hm]
        clear HB
        go_wp2
        go_ret
        exact ⟨congrArg (fun z => Ending.returned (.int .i64 z)) HE.out.symm, hb⟩
      · obtain ⟨j, rfl⟩ := Int.eq_ofNat_of_zero_le (show 0 ≤ iv by omega)
        have hj : j < ops.length := by omega
        have HB2 : Hid (bwd W ops k 1 = bwd W ops (j + 1) m) := by show _ = _; rw [HB.out, show ((j : Int) + 1).toNat = j + 1 by omega]
        clear HB
        obtain ⟨x0, x1⟩ := (hr.of hg hb).at j hj
        have q1 : g < wr.heap.size := Nat.lt_of_lt_of_le hg hb.size
        have htr := tk_range ops[j].1 ops[j].2 W
        have TK := fun w => l1Takes_calls ops[j].1 ops[j].2 W w
        have hbs := bwd_step W ops j m hm hj
        have hbb := bwd_bad W ops j m hm hj
        generalize tk ops[j].1 ops[j].2 W = t at *
        have HK := hide TK
        have HS := hide hbs
        have HX := hide hbb
        clear TK hbs hbb
        by_cases ht : t < 0
        · go_wp2_with fail
          refine (unhide HK _).mono ?_; rintro e w1 ⟨rfl, hb1⟩
          go_wp2
          go_ret
          exact ⟨congrArg (fun z => Ending.returned (.int .i64 z)) (HB2.out.trans (unhide HX ht)).symm, bT hb hb1⟩
        · go_wp2_with fail
          refine (unhide HK _).mono ?_; rintro e w1 ⟨rfl, hb1⟩
          have d1 := bT hb hb1
          obtain ⟨y0, y1⟩ := (hr.of hg d1).at j hj
          have q2 : g < w1.heap.size := Nat.lt_of_lt_of_le hg d1.size
          go_wp2_with fail
          refine (unhide HK _).mono ?_; rintro e w2 ⟨rfl, hb2⟩
          have d2 := bT d1 hb2
          go_wp2
          go_roundw
          case rel =>
            refine ⟨(j : Int) - 1, m - 1 + t, rfl, rfl, by omega, by omega, by omega, by omega, ?_, d2⟩
            rw [HB2.out, unhide HS ht, show ((j : Int) - 1 + 1).toNat = j by omega]
          case measure => simp [intOf]
    · obtain rfl : m = 0 := by omega
      have HE : Hid (bwd W ops k 1 = iv + 1) := by
        show _ = _
        rw [HB.out, bwd_zero]
        omega
      clear HB
      go_wp2
      go_ret
      exact ⟨congrArg (fun z => Ending.returned (.int .i64 z)) HE.out.symm, hb⟩
end Go.Proofs.YtnchcndcinpalaaGreatDoor
namespace Go.Proofs.YtnchcndcinpalaaGreatDoor
open Go Go.RowKit
theorem exOk_false {W : Int} {ops : List O2} (h : W < 0 ∨ ops.length = 0 ∨ 5000 < ops.length) : exOk W ops = false := by
  unfold exOk
  rw [decide_eq_false_iff_not]
  rintro ⟨h1, h2, h3⟩
  have := exOk_len h3
  omega
theorem exOk_bwd {W : Int} {ops : List O2} (h1 : 0 ≤ W) (h2 : ops.length ≤ 5000) : exOk W ops = (bwd W ops ops.length 1 == 0) := by
  unfold exOk
  rw [Bool.eq_iff_iff, decide_eq_true_eq, beq_iff_eq, fwd_iff_bwd]
  exact ⟨fun h => h.2.2, fun h => ⟨h1, h2, h⟩⟩
set_option maxHeartbeats 1000000 in
theorem sExOk_calls (ops : List O2) (g off cap : Nat) (W : Int) (w : World) (hg : g < w.heap.size) (hr : OpsAt w g off ops) (b1 : ops.length ≤ 1048576) :
    Calls Tryz.prog 97 #[.slice (some ⟨g, off, none⟩) ops.length cap, .int .i64 W] w fun e w' => e = .returned (.bool (exOk W ops)) ∧ Below w.heap.size w w' := by
  by_cases c1 : 0 ≤ W
  · by_cases c2 : 1 ≤ (ops.length : Int)
    · by_cases c3 : (ops.length : Int) ≤ 5000
      · have HE : Hid (exOk W ops = (bwd W ops ops.length 1 == 0)) := exOk_bwd c1 (by omega)
        go_enter Tryz.func97, Tryz.ntmps97
        go_wp2_with fail
        refine (l1Start_calls ops g off cap W ops.length _ _ hg hr b1 (Nat.le_refl _) rfl).mono ?_; rintro e w1 ⟨rfl, hb1⟩
        generalize bwd W ops ops.length 1 = z at *
        go_wp2
        go_ret
        exact ⟨congrArg (fun z => Ending.returned (.bool z)) HE.out.symm, hb1⟩
      · have HE : Hid (exOk W ops = false) := exOk_false (by omega)
        go_enter Tryz.func97, Tryz.ntmps97
        go_wp2
        go_ret
        exact ⟨congrArg (fun z => Ending.returned (.bool z)) HE.out.symm, Below.refl _ _⟩
    · have HE : Hid (exOk W ops = false) := exOk_false (by omega)
      go_enter Tryz.func97, Tryz.ntmps97
      go_wp2
      go_ret
      exact ⟨congrArg (fun z => Ending.returned (.bool z)) HE.out.symm, Below.refl _ _⟩
  · have HE : Hid (exOk W ops = false) := exOk_false (by omega)
    go_enter Tryz.func97, Tryz.ntmps97
    go_wp2
    go_ret
    exact ⟨congrArg (fun z => Ending.returned (.bool z)) HE.out.symm, Below.refl _ _⟩
abbrev TTakes (w : World) : Prop := TabAt w 3 [.int .i64 0, .int .i64 0, .int .i64 0, .int .i64 0, .int .i64 2, .int .i64 2, .int .i64 2, .int .i64 1, .int .i64 1]
theorem tk_kind {k n W : Int} (h : ¬ tk k n W < 0) : 1 ≤ k ∧ k ≤ 8 := by
  unfold tk at h
  repeat (split at h <;> try omega)
theorem takes_look {w : World} (h : TTakes w) (k : Nat) (n W : Int) (ht : ¬ tk k n W < 0) : w.cell? ⟨3, k, none⟩ = some (.int .i64 (tk k n W)) := by
  rw [h.cell]
  have e := tk_kind ht
  have e1 : k = 1 ∨ k = 2 ∨ k = 3 ∨ k = 4 ∨ k = 5 ∨ k = 6 ∨ k = 7 ∨ k = 8 := by omega
  unfold tk at ht ⊢
  rcases e1 with rfl | rfl | rfl | rfl | rfl | rfl | rfl | rfl <;> simp at ht ⊢ <;> (split at ht <;> first | assumption | omega)
theorem takes_lookI {w : World} (h : TTakes w) (k n W : Int) (ht : ¬ tk k n W < 0) : w.cell? ⟨3, k.toNat, none⟩ = some (.int .i64 (tk k n W)) := by
  obtain ⟨j, rfl⟩ := Int.eq_ofNat_of_zero_le (show 0 ≤ k by have := tk_kind ht; omega)
  exact takes_look h j n W ht
theorem fwd_drop (W : Int) (ops : List O2) (k h : Nat) (hk : k < ops.length) : fwd W (ops.drop k) h = fwd W (ops[k] :: ops.drop (k + 1)) h := by
  rw [List.drop_eq_getElem_cons hk]
theorem exOk_fwd {W : Int} {ops : List O2} (h1 : 0 ≤ W) (h2 : ops.length ≤ 5000) {r : Option Nat} (h : fwd W ops 0 = r) : exOk W ops = decide (r = some 1) := by
  unfold exOk
  rw [h]
  simp [h1, h2]
set_option maxHeartbeats 1000000 in
theorem ExOk_calls (ops : List O2) (g off cap : Nat) (W : Int) (w : World) (hT : TTakes w) (hg : g < w.heap.size) (hr : OpsAt w g off ops) (b1 : ops.length ≤ 1048576) :
    Calls Tryz.prog 124 #[.slice (some ⟨g, off, none⟩) ops.length cap, .int .i64 W] w fun e w' => e = .returned (.bool (exOk W ops)) ∧ Below w.heap.size w w' := by
  by_cases c3 : 5000 < (ops.length : Int)
  · have HE : Hid (exOk W ops = false) := exOk_false (by omega)
    go_enter Tryz.func124, Tryz.ntmps124
    go_wp2
    go_ret
    exact ⟨congrArg (fun z => Ending.returned (.bool z)) HE.out.symm, Below.refl _ _⟩
  by_cases c1 : W < 0
  · have HE : Hid (exOk W ops = false) := exOk_false (by omega)
    go_enter Tryz.func124, Tryz.ntmps124
    go_wp2
    go_ret
    exact ⟨congrArg (fun z => Ending.returned (.bool z)) HE.out.symm, Below.refl _ _⟩
  go_enter Tryz.func124, Tryz.ntmps124
  go_wp2
  go_loopw [5, 7, 17] (fun hh _ c wr => ∃ k h : Nat, k ≤ ops.length ∧ h ≤ k ∧ c = .int .i64 k ∧ hh = .int .i64 h ∧ fwd W ops 0 = fwd W (ops.drop k) h ∧ Below w.heap.size w wr) (fun _ _ c _ => ops.length - (intOf c).toNat)
  case atStart => exact ⟨0, 0, Nat.zero_le _, Nat.zero_le _, rfl, rfl, by simp, Below.refl _ _⟩
  case round =>
    obtain ⟨k, h, hk, hh, rfl, rfl, hF, hb⟩ := hrel
    have HF : Hid (fwd W ops 0 = fwd W (ops.drop k) h) := hF
    clear hF
    by_cases hlt : k < ops.length
    · obtain ⟨x0, x1⟩ := (hr.of hg hb).at k hlt
      have q1 : g < wr.heap.size := Nat.lt_of_lt_of_le hg hb.size
      have j1 : (k : Int) < (ops.length : Int) := by omega
      have hbad : tk ops[k].1 ops[k].2 W < 0 → exOk W ops = false := fun ht => by
        rw [exOk_fwd (by omega) (by omega) (HF.out.trans (fwd_drop W ops k h hlt))]; simp [fwd, ht]
      have hlow : ¬ tk ops[k].1 ops[k].2 W < 0 → (h : Int) < tk ops[k].1 ops[k].2 W → exOk W ops = false := fun ht hl => by
        rw [exOk_fwd (by omega) (by omega) (HF.out.trans (fwd_drop W ops k h hlt))]; simp [fwd, ht, hl]
      have hgo : ¬ tk ops[k].1 ops[k].2 W < 0 → ¬ (h : Int) < tk ops[k].1 ops[k].2 W → fwd W ops 0 = fwd W (ops.drop (k + 1)) (h + 1 - (tk ops[k].1 ops[k].2 W).toNat) := fun ht hl => by
        rw [HF.out, fwd_drop W ops k h hlt]; simp [fwd, ht, hl]
      have OPOK := fun w => opOk_calls ops[k].1 ops[k].2 W w
      have hkind : ¬ tk ops[k].1 ops[k].2 W < 0 → 1 ≤ ops[k].1 ∧ ops[k].1 ≤ 8 := fun ht => tk_kind ht
      have hlook : ∀ wx : World, TTakes wx → ¬ tk ops[k].1 ops[k].2 W < 0 → wx.cell? ⟨3, (ops[k].1).toNat, none⟩ = some (.int .i64 (tk ops[k].1 ops[k].2 W)) := fun wx hx ht => takes_lookI hx _ _ W ht
      have htr := tk_range ops[k].1 ops[k].2 W
      generalize tk ops[k].1 ops[k].2 W = t at *
      generalize ops[k].1 = K at *
      generalize ops[k].2 = N at *
      have Hbad := hide hbad; have Hlow := hide hlow; have Hgo := hide hgo; have Hop := hide OPOK; have Hkind := hide hkind; have Hlook := hide hlook
      clear hbad hlow hgo OPOK hkind hlook HF
      have hz := hT.size
      by_cases ht : t < 0
      · have e1 : decide (0 ≤ t) = false := by simp; omega
        go_wp2_with fail
        refine (unhide Hop _).mono ?_; rintro e w1 ⟨rfl, hb1⟩
        rw [e1]
        go_wp2
        go_ret
        exact ⟨congrArg (fun z => Ending.returned (.bool z)) (unhide Hbad ht).symm, bT (bA hb _) hb1⟩
      · have e1 : decide (0 ≤ t) = true := by simp; omega
        obtain ⟨hk1, hk8⟩ := unhide Hkind ht
        have k0 : (0 : Int) ≤ K := by omega
        have k9 : K < 9 := by omega
        go_wp2_with fail
        refine (unhide Hop _).mono ?_; rintro e w1 ⟨rfl, hb1⟩
        rw [e1]
        have d1 := bT (bA hb _) hb1
        have hL := unhide Hlook w1 (hT.of d1) ht
        obtain ⟨hc1, hf1⟩ := bcell hb1
        have hs1 : wr.heap.size < w1.heap.size := by have := hb1.size; simp at this; omega
        by_cases hl : (h : Int) < t
        · go_wp2
          go_ret
          exact ⟨congrArg (fun z => Ending.returned (.bool z)) (unhide Hlow ht hl).symm, d1⟩
        · have hw1 := wrap_small (1 - t) (by omega) (by omega)
          have hw2 := wrap_small ((h : Int) + (1 - t)) (by omega) (by omega)
          go_wp2
          go_roundw
          case rel => exact ⟨k + 1, h + 1 - t.toNat, by omega, by omega, by go_num, by congr 1; omega, unhide Hgo ht hl, d1⟩
          case measure => simp [intOf]; omega
    · obtain rfl : k = ops.length := by omega
      have HE : Hid (exOk W ops = ((h : Int) == 1)) := by
        show _ = _
        have := HF.out
        rw [List.drop_length] at this
        rw [exOk_fwd (by omega) (by omega) this]
        simp [fwd]
        rw [Bool.eq_iff_iff]
        simp
        omega
      clear HF
      go_wp2
      go_ret
      exact ⟨congrArg (fun z => Ending.returned (.bool z)) HE.out.symm, hb⟩
end Go.Proofs.YtnchcndcinpalaaGreatDoor
