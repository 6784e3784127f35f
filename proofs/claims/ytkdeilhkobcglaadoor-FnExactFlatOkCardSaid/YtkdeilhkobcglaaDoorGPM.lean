import Derived.Test.YtkdeilhkobcglaaDoorGSpec1
/-
  THE PROGRAM's WAY WITH PLANS, as functions of the lists: widths from the leaves up, environments from the root down, and why a plan is valid just if every node passes.
-/
namespace Go.Proofs.YtkdeilhkobcglaaDoor
open Go Go.RowKit

/-- whatever goes from a node to its kids goes from the roots to all nodes -/
theorem Seg.all {ns : List Nd} {P : Nat → Prop} (hk : ∀ i, P i → ∀ x ∈ kidsAt ns i, P x.toNat) {a b : Nat} {ks : List Int} (h : Seg ns a b ks) : (∀ x ∈ ks, P x.toNat) → ∀ j, a ≤ j → j < b → P j := by
  induction h with
  | nil a => intro _ j h1 h2; omega
  | @snoc a c p ks h1 h2 i1 i2 =>
    intro hr j e1 e2
    have hp : P p := by have := hr (p : Int) (by simp); simpa using this
    by_cases hc : j < c
    · exact i1 (fun x hx => hr x (by simp [hx])) j e1 hc
    · by_cases hj : j < p
      · exact i2 (hk p hp) j (by omega) hj
      · obtain rfl : j = p := by omega
        exact hp
theorem frm_seg {ns : List Nd} {i f : Nat} (h : frm ns i = (f : Int)) : Seg ns f i (kidsAt ns i) := by
  rcases frm_cases ns i with ⟨h1, _⟩ | ⟨f', h1, h2⟩
  · omega
  · obtain rfl : f' = f := by omega
    exact h2
theorem frm_all {ns : List Nd} {n : Nat} (h : frm ns n = 0) : ∀ j, j ≤ n → frm ns j ≠ -1 := by
  have hs : Seg ns 0 (n + 1) [(n : Int)] := (frm_seg (f := 0) (by simpa using h)).one
  intro j hj
  obtain ⟨f, hf⟩ := hs.each j (by omega) (by omega)
  rw [frm_some hf]
  omega
theorem kid_one' {ps : List Pn} {i : Nat} (hi : i < ps.length) (h : frm (nds ps) i ≠ -1) (ha : arity (ps[i]).K = 1) : ∃ j : Nat, i = j + 1 ∧ (ps[i]).L = (j : Int) ∧ (ps[i]).R = 0 ∧ frm (nds ps) j = frm (nds ps) i := by
  have hk := kidsAt_nds hi
  unfold kidsP at hk
  rw [if_neg (by omega), if_pos ha] at hk
  by_cases hr : (ps[i]).R = 0
  · rw [if_pos hr] at hk
    cases i with
    | zero => exact absurd (frm_one0 hk) h
    | succ j =>
      rw [frm_one hk] at h ⊢
      by_cases hl : (ps[j + 1]).L = (j : Int)
      · rw [if_pos hl]
        exact ⟨j, rfl, hl, hr, rfl⟩
      · rw [if_neg hl] at h
        exact absurd rfl h
  · rw [if_neg hr] at hk
    exact absurd (frm_neg hk) h
theorem kid_two' {ps : List Pn} {i : Nat} (hi : i < ps.length) (h : frm (nds ps) i ≠ -1) (ha : arity (ps[i]).K = 2) : ∃ q j : Nat, i = j + 1 ∧ q < j ∧ (ps[i]).L = (q : Int) ∧ (ps[i]).R = (j : Int) ∧ frm (nds ps) q = frm (nds ps) i ∧ frm (nds ps) j = (q : Int) + 1 := by
  have hk := kidsAt_nds hi
  unfold kidsP at hk
  rw [if_neg (by omega), if_neg (by omega), if_pos ha] at hk
  cases i with
  | zero => exact absurd (frm_two0 hk) h
  | succ j =>
    rw [frm_two hk] at h ⊢
    by_cases h1 : (ps[j + 1]).R ≠ (j : Int)
    · rw [if_pos h1] at h; exact absurd rfl h
    rw [if_neg h1] at h ⊢
    by_cases h2 : frm (nds ps) j < 1
    · rw [if_pos h2] at h; exact absurd rfl h
    rw [if_neg h2] at h ⊢
    by_cases h3 : (ps[j + 1]).L ≠ frm (nds ps) j - 1
    · rw [if_pos h3] at h; exact absurd rfl h
    rw [if_neg h3] at h ⊢
    have hle := (frm_le (nds ps) j).2
    exact ⟨(frm (nds ps) j - 1).toNat, j, rfl, by omega, by omega, by omega, rfl, by omega⟩

abbrev perRow (k : Int) : Prop := k = 6 ∨ k = 7 ∨ k = 8
abbrev usesEx (k m : Int) : Prop := (k = 3 ∨ k = 7 ∨ k = 8) ∧ m ≠ 1
/-- the fields of a node but for its kids' places and its expressions -/
def FldV (nt : Nat) (p : Pn) : Prop := 1 ≤ p.K ∧ p.K ≤ 10 ∧ usedP nt p.K p.T p.M p.Ex.length p.Exs.length ∧ (arity p.K = 0 → p.L = 0) ∧ (arity p.K ≠ 2 → p.R = 0)
theorem arity_of {k : Int} (h1 : 1 ≤ k) (h2 : k ≤ 10) : arity k = 0 ∨ arity k = 1 ∨ arity k = 2 := by
  unfold arity
  split
  · simp
  split
  · simp
  rw [if_pos ⟨h1, h2⟩]
  simp

/-- the width of a node, by its kids' widths -/
def stepW (ts : List Tb) (p : Pn) (l r : Int) : Int :=
  if p.K = 2 then colsAt ts p.T else if p.K = 4 then (p.Exs.length : Int) else if p.K = 5 ∨ p.K = 6 then l + r else if p.K = 7 ∨ p.K = 8 then l + 1 else if p.K = 3 ∨ p.K = 9 ∨ p.K = 10 then l else 0
def iw (ts : List Tb) (ps : List Pn) (i : Nat) : Int :=
  match ps[i]? with
  | none => 0
  | some p => stepW ts p (if _h : p.L.toNat < i then iw ts ps p.L.toNat else 0) (if _h : p.R.toNat < i then iw ts ps p.R.toNat else 0)
  termination_by i
theorem iw_at (ts : List Tb) {ps : List Pn} {i : Nat} (hi : i < ps.length) : iw ts ps i = stepW ts ps[i] (if (ps[i]).L.toNat < i then iw ts ps (ps[i]).L.toNat else 0) (if (ps[i]).R.toNat < i then iw ts ps (ps[i]).R.toNat else 0) := by
  conv => lhs; rw [iw]
  rw [List.getElem?_eq_getElem hi]
  dsimp only
  congr 1
theorem wid_at (ts : List Tb) {ps : List Pn} {i : Nat} (hi : i < ps.length) (env : Int) (hu : UsedP ts ps[i]) (hl : 0 < arity (ps[i]).K → (ps[i]).L.toNat < i) (hr : 1 < arity (ps[i]).K → (ps[i]).R.toNat < i) :
    wid ts ps i env = (if (if 0 < arity (ps[i]).K then wid ts ps (ps[i]).L.toNat env else 0) < 0 then -1 else
      if (if 1 < arity (ps[i]).K then wid ts ps (ps[i]).R.toNat (insideW (ps[i]).K env (if 0 < arity (ps[i]).K then wid ts ps (ps[i]).L.toNat env else 0)) else 0) < 0 then -1 else
      nodeW ts ps[i] env (if 0 < arity (ps[i]).K then wid ts ps (ps[i]).L.toNat env else 0) (if 1 < arity (ps[i]).K then wid ts ps (ps[i]).R.toNat (insideW (ps[i]).K env (if 0 < arity (ps[i]).K then wid ts ps (ps[i]).L.toNat env else 0)) else 0)) := by
  have el : (if 0 < arity (ps[i]).K then (if _h : (ps[i]).L.toNat < i then wid ts ps (ps[i]).L.toNat env else -1) else 0) = (if 0 < arity (ps[i]).K then wid ts ps (ps[i]).L.toNat env else 0) := by
    split
    · rename_i h; rw [dif_pos (hl h)]
    · rfl
  have er : ∀ e, (if 1 < arity (ps[i]).K then (if _h : (ps[i]).R.toNat < i then wid ts ps (ps[i]).R.toNat e else -1) else 0) = (if 1 < arity (ps[i]).K then wid ts ps (ps[i]).R.toNat e else 0) := fun e => by
    split
    · rename_i h; rw [dif_pos (hr h)]
    · rfl
  conv => lhs; rw [wid]
  rw [List.getElem?_eq_getElem hi]
  dsimp only
  rw [if_neg (by simpa using hu)]
  simp only [el, er]

/-- numbers handed down from the root -/
structure Handed (ps : List Pn) (f : Int → Int → Int) (root : Int) (G : List Int) : Prop where
  len : G.length = ps.length
  top : G.getD (ps.length - 1) 0 = root
  left : ∀ (i : Nat) (hi : i < ps.length), 0 < arity (ps[i]).K → G.getD (ps[i]).L.toNat 0 = G.getD i 0
  right : ∀ (i : Nat) (hi : i < ps.length), 1 < arity (ps[i]).K → G.getD (ps[i]).R.toNat 0 = if perRow (ps[i]).K then f (G.getD i 0) (ps[i]).L else G.getD i 0
/-- .. as far as the node i -/
structure HandTo (ps : List Pn) (f : Int → Int → Int) (root : Int) (G : List Int) (i : Nat) : Prop where
  len : G.length = ps.length
  top : G.getD (ps.length - 1) 0 = root
  seg : ∃ Ls, Seg (nds ps) 0 i Ls ∧ ∀ (j : Nat) (hj : j < ps.length), i ≤ j →
    (0 < arity (ps[j]).K → (i ≤ (ps[j]).L.toNat ∨ (ps[j]).L ∈ Ls) ∧ G.getD (ps[j]).L.toNat 0 = G.getD j 0) ∧
    (1 < arity (ps[j]).K → (i ≤ (ps[j]).R.toNat ∨ (ps[j]).R ∈ Ls) ∧ G.getD (ps[j]).R.toNat 0 = if perRow (ps[j]).K then f (G.getD j 0) (ps[j]).L else G.getD j 0)
theorem HandTo.start {ps : List Pn} (h0 : 1 ≤ ps.length) (hf : frm (nds ps) (ps.length - 1) = 0) (f : Int → Int → Int) (root : Int) {G : List Int} (hl : G.length = ps.length) (ht : G.getD (ps.length - 1) 0 = root) : HandTo ps f root G ps.length :=
  ⟨hl, ht, [((ps.length - 1 : Nat) : Int)], by
    have := (frm_seg (f := 0) (by simpa using hf)).one
    rwa [show ps.length - 1 + 1 = ps.length by omega] at this, fun j hj h => by omega⟩
theorem HandTo.done {ps : List Pn} {f : Int → Int → Int} {root : Int} {G : List Int} (h : HandTo ps f root G 0) : Handed ps f root G := by
  obtain ⟨Ls, _, h2⟩ := h.seg
  exact ⟨h.len, h.top, fun i hi ha => ((h2 i hi (by omega)).1 ha).2, fun i hi ha => ((h2 i hi (by omega)).2 ha).2⟩
theorem HandTo.step {ps : List Pn} {f : Int → Int → Int} {root : Int} {G G' : List Int} {k : Nat} (h : HandTo ps f root G (k + 1)) (hk : k < ps.length) (hlen : G'.length = ps.length)
    (hin : (0 < arity (ps[k]).K → (ps[k]).L ∈ kidsAt (nds ps) k) ∧ (1 < arity (ps[k]).K → (ps[k]).R ∈ kidsAt (nds ps) k))
    (hsame : ∀ x : Nat, (x : Int) ∉ kidsAt (nds ps) k → G'.getD x 0 = G.getD x 0) (hL : 0 < arity (ps[k]).K → G'.getD (ps[k]).L.toNat 0 = G.getD k 0)
    (hR : 1 < arity (ps[k]).K → G'.getD (ps[k]).R.toNat 0 = if perRow (ps[k]).K then f (G.getD k 0) (ps[k]).L else G.getD k 0) : HandTo ps f root G' k := by
  obtain ⟨Ls, hs, hr⟩ := h.seg
  obtain ⟨A, rfl⟩ := hs.last
  obtain ⟨p, c, e1, _, hA, hK⟩ := hs.inv
  obtain rfl : p = k := by omega
  have hup : ∀ x : Nat, p ≤ x → (x : Int) ∉ kidsAt (nds ps) p := fun x hx hm => by
    obtain ⟨q, e, _, h2⟩ := hK.kid _ hm
    omega
  have hto : ∀ y : Int, y ∈ A ++ [(p : Int)] ∨ p + 1 ≤ y.toNat → G'.getD y.toNat 0 = G.getD y.toNat 0 := fun y hy => by
    apply hsame
    rcases hy with hy | hy
    · rcases List.mem_append.1 hy with h' | h'
      · obtain ⟨q, e, _, h2⟩ := hA.kid _ h'
        intro hm
        obtain ⟨q', e', h3, _⟩ := hK.kid _ hm
        omega
      · simp only [List.mem_singleton] at h'
        exact hup _ (by omega)
    · exact hup _ (by omega)
  have hnew : ∀ y : Int, (p + 1 ≤ y.toNat ∨ y ∈ A ++ [(p : Int)]) → (p ≤ y.toNat ∨ y ∈ A ++ kidsAt (nds ps) p) := fun y hy => by
    rcases hy with h' | h'
    · exact Or.inl (by omega)
    · rcases List.mem_append.1 h' with h'' | h''
      · exact Or.inr (List.mem_append_left _ h'')
      · simp only [List.mem_singleton] at h''
        exact Or.inl (by omega)
  refine ⟨hlen, ?_, A ++ kidsAt (nds ps) p, hA.join hK, fun j hj hjp => ?_⟩
  · rw [hsame _ (hup _ (by omega))]
    exact h.top
  · by_cases e : j = p
    · subst e
      rw [hsame j (hup _ (by omega))]
      exact ⟨fun ha => ⟨Or.inr (List.mem_append_right _ (hin.1 ha)), hL ha⟩, fun ha => ⟨Or.inr (List.mem_append_right _ (hin.2 ha)), hR ha⟩⟩
    · obtain ⟨r1, r2⟩ := hr j hj (by omega)
      rw [hsame j (hup _ (by omega))]
      refine ⟨fun ha => ?_, fun ha => ?_⟩
      · obtain ⟨h1, h2⟩ := r1 ha
        exact ⟨hnew _ h1, by rw [hto _ h1.symm]; exact h2⟩
      · obtain ⟨h1, h2⟩ := r2 ha
        exact ⟨hnew _ h1, by rw [hto _ h1.symm]; exact h2⟩

/-- the expressions of a node, as the program asks for them -/
def ExsV (p : Pn) (env l r : Int) : Prop := if usesEx p.K p.M then exOk (env + l + (if perRow p.K then r else 0)) p.Ex = true else ∀ xs ∈ p.Exs, exOk (env + l) xs = true
def CondI (ts : List Tb) (ps : List Pn) (G : List Int) (i : Nat) (p : Pn) : Prop :=
  G.getD i 0 + iw ts ps i ≤ 200 ∧ (p.K = 10 → iw ts ps p.L.toNat = iw ts ps p.R.toNat) ∧ ExsV p (G.getD i 0) (iw ts ps p.L.toNat) (iw ts ps p.R.toNat)
theorem colsAt_pos {ts : List Tb} (hd : DbV ts) {t : Int} (h0 : 0 ≤ t) (h1 : t < (ts.length : Int)) : 1 ≤ colsAt ts t ∧ colsAt ts t ≤ 16 := by
  have hi : t.toNat < ts.length := by omega
  unfold colsAt
  rw [List.getElem?_eq_getElem hi]
  have := hd.each _ hi
  exact ⟨this.2.1, this.2.2.1⟩

/-- where the fields are good and the width is one, a kid's width is its parent's in the program too -/
theorem nodeW_iff {ts : List Tb} {p : Pn} {env l r : Int} (hF : FldV ts.length p) (hl : 0 ≤ l) (hr : 0 ≤ r) (hd : DbV ts) (h0 : arity p.K = 0 → l = 0) :
    (0 ≤ nodeW ts p env l r ↔ (env + stepW ts p l r ≤ 200 ∧ (p.K = 10 → l = r) ∧ ExsV p env l r)) ∧ (0 ≤ nodeW ts p env l r → nodeW ts p env l r = stepW ts p l r) ∧ 0 ≤ stepW ts p l r := by
  obtain ⟨k1, k2, hu, hL, hR⟩ := hF
  have hc : p.K = 1 ∨ p.K = 2 ∨ p.K = 3 ∨ p.K = 4 ∨ p.K = 5 ∨ p.K = 6 ∨ p.K = 7 ∨ p.K = 8 ∨ p.K = 9 ∨ p.K = 10 := by omega
  obtain ⟨u1, u2, u3, u4, u5, u6⟩ := hu
  have hcols := fun h => colsAt_pos hd (u2 h).1 (u2 h).2
  unfold nodeW rawW stepW ExsV usesEx perRow
  generalize colsAt ts p.T = C at *
  rcases hc with h | h | h | h | h | h | h | h | h | h
  · have e0 := h0 (by rw [h]; rfl)
    have e1 : p.Exs = [] := List.eq_nil_of_length_eq_zero (by omega)
    simp [h, e0, e1]
    split <;> omega
  · have := hcols h
    have e1 : p.Exs = [] := List.eq_nil_of_length_eq_zero (by omega)
    simp [h, e1]
    refine ⟨?_, ?_, by omega⟩ <;> split <;> omega
  · have e1 := u3 (by omega)
    simp [h, e1]
    by_cases hx : exOk (env + l) p.Ex = true
    · simp [hx]
      refine ⟨?_, ?_, by omega⟩ <;> split <;> omega
    · simp [hx, hl]
  · simp [h]
    by_cases hx : ∀ xs ∈ p.Exs, exOk (env + l) xs = true
    · simp only [if_pos hx]
      refine ⟨⟨fun hh => ⟨by split at hh <;> omega, hx⟩, fun hh => ?_⟩, fun hh => ?_⟩
      · rw [if_neg (by omega)]; omega
      · split at hh
        · omega
        · rw [if_neg (by assumption)]
    · simp only [if_neg hx]
      exact ⟨⟨fun hh => by simp at hh, fun hh => absurd hh.2 hx⟩, fun hh => by simp at hh⟩
  · have e1 : p.Exs = [] := List.eq_nil_of_length_eq_zero (by omega)
    simp [h, e1]
    refine ⟨?_, ?_, by omega⟩ <;> split <;> omega
  · have e1 : p.Exs = [] := List.eq_nil_of_length_eq_zero (by omega)
    simp [h, e1]
    refine ⟨?_, ?_, by omega⟩ <;> split <;> omega
  · have e1 := u3 (by omega)
    simp [h, e1]
    by_cases hx : exOk (env + l + r) p.Ex = true
    · simp [hx]
      refine ⟨?_, ?_, by omega⟩ <;> split <;> omega
    · simp [hx]; omega
  · have e1 : p.Exs = [] := List.eq_nil_of_length_eq_zero (by omega)
    by_cases hm : p.M = 1
    · simp [h, hm, e1]
      refine ⟨?_, ?_, by omega⟩ <;> split <;> omega
    · simp [h, hm]
      by_cases hx : exOk (env + l + r) p.Ex = true
      · simp [hx]
        refine ⟨?_, ?_, by omega⟩ <;> split <;> omega
      · simp [hx]; omega
  · have e1 : p.Exs = [] := List.eq_nil_of_length_eq_zero (by omega)
    simp [h, e1, hl]
    refine ⟨?_, ?_⟩ <;> split <;> omega
  · have e1 : p.Exs = [] := List.eq_nil_of_length_eq_zero (by omega)
    simp [h, e1, hl]
    by_cases hx : l = r
    · simp [hx]
      refine ⟨?_, ?_⟩ <;> split <;> omega
    · simp [hx]
end Go.Proofs.YtkdeilhkobcglaaDoor
/-
  A PLAN IS VALID just if every node passes, with the widths from the leaves up and the environments from the root down.
-/
namespace Go.Proofs.YtkdeilhkobcglaaDoor
open Go Go.RowKit

structure Good (ts : List Tb) (ps : List Pn) : Prop where
  db : DbV ts
  some : 1 ≤ ps.length
  fld : ∀ (i : Nat) (hi : i < ps.length), FldV ts.length ps[i]
  ord : frm (nds ps) (ps.length - 1) = 0
theorem Good.frm {ts : List Tb} {ps : List Pn} (h : Good ts ps) {i : Nat} (hi : i < ps.length) : frm (nds ps) i ≠ -1 := frm_all h.ord i (by omega)
theorem Good.kids {ts : List Tb} {ps : List Pn} (h : Good ts ps) {i : Nat} (hi : i < ps.length) :
    (0 < arity (ps[i]).K → 0 ≤ (ps[i]).L ∧ (ps[i]).L.toNat < i) ∧ (1 < arity (ps[i]).K → 0 ≤ (ps[i]).R ∧ (ps[i]).R.toNat < i) := by
  have hF := h.fld i hi
  have hf := h.frm hi
  rcases arity_of hF.1 hF.2.1 with ha | ha | ha
  · exact ⟨fun h => by omega, fun h => by omega⟩
  · obtain ⟨j, e, e1, _, _⟩ := kid_one' hi hf ha
    exact ⟨fun _ => by omega, fun h => by omega⟩
  · obtain ⟨q, j, e, e0, e1, e2, _⟩ := kid_two' hi hf ha
    exact ⟨fun _ => by omega, fun _ => by omega⟩
theorem Good.kidsIn {ts : List Tb} {ps : List Pn} (h : Good ts ps) {i : Nat} (hi : i < ps.length) :
    (0 < arity (ps[i]).K → (ps[i]).L ∈ kidsAt (nds ps) i) ∧ (1 < arity (ps[i]).K → (ps[i]).R ∈ kidsAt (nds ps) i) ∧ ∀ x ∈ kidsAt (nds ps) i, (0 < arity (ps[i]).K ∧ x = (ps[i]).L) ∨ (1 < arity (ps[i]).K ∧ x = (ps[i]).R) := by
  have hF := h.fld i hi
  rw [kidsAt_nds hi]
  unfold kidsP
  rcases arity_of hF.1 hF.2.1 with ha | ha | ha
  · have h1 := hF.2.2.2.1 ha
    have h2 := hF.2.2.2.2 (by omega)
    rw [if_pos ha, if_pos ⟨h1, h2⟩]
    exact ⟨fun h => by omega, fun h => by omega, fun x hx => by simp at hx⟩
  · have h2 := hF.2.2.2.2 (by omega)
    rw [if_neg (by omega), if_pos ha, if_pos h2]
    exact ⟨fun _ => by simp, fun h => by omega, fun x hx => Or.inl ⟨by omega, by simpa using hx⟩⟩
  · rw [if_neg (by omega), if_neg (by omega), if_pos ha]
    refine ⟨fun _ => by simp, fun _ => by simp, fun x hx => ?_⟩
    rcases List.mem_cons.1 hx with h' | h'
    · exact Or.inl ⟨by omega, h'⟩
    · exact Or.inr ⟨by omega, by simpa using h'⟩
theorem arity_k {k : Int} : (k = 5 ∨ k = 6 ∨ k = 7 ∨ k = 8 ∨ k = 10 → arity k = 2) ∧ (k = 3 ∨ k = 4 ∨ k = 9 → arity k = 1) ∧ (k = 1 ∨ k = 2 → arity k = 0) := by
  refine ⟨fun h => ?_, fun h => ?_, fun h => ?_⟩
  · rcases h with rfl | rfl | rfl | rfl | rfl <;> rfl
  · rcases h with rfl | rfl | rfl <;> rfl
  · rcases h with rfl | rfl <;> rfl
theorem stepW_congr (ts : List Tb) (p : Pn) {l r l' r' : Int} (hl : 0 < arity p.K → l = l') (hr : 1 < arity p.K → r = r') : stepW ts p l r = stepW ts p l' r' := by
  unfold stepW
  obtain ⟨a1, a2, _⟩ := arity_k (k := p.K)
  split
  · rfl
  split
  · rfl
  split
  · have := a1 (by omega); rw [hl (by omega), hr (by omega)]
  split
  · have := a1 (by omega); rw [hl (by omega)]
  split
  · rename_i h
    have : 0 < arity p.K := by
      by_cases e : p.K = 10
      · have := a1 (by omega); omega
      · have := a2 (by omega); omega
    rw [hl this]
  · rfl
theorem exsV_congr {nt : Nat} {p : Pn} (hF : FldV nt p) (env : Int) {l r l' r' : Int} (hl : 0 < arity p.K → l = l') (hr : 1 < arity p.K → r = r') : ExsV p env l r ↔ ExsV p env l' r' := by
  unfold ExsV
  obtain ⟨a1, a2, _⟩ := arity_k (k := p.K)
  obtain ⟨k1, k2, ⟨_, _, _, _, _, u6⟩, _⟩ := hF
  split
  · rename_i hu
    have h0 : 0 < arity p.K := by
      rcases hu.1 with h | h
      · have := a2 (by omega); omega
      · have := a1 (by omega); omega
    rw [hl h0]
    by_cases hp : perRow p.K
    · have := a1 (by unfold perRow at hp; omega)
      rw [hr (by omega)]
    · simp only [if_neg hp]
  · by_cases h4 : p.K = 4
    · have := a2 (by omega); rw [hl (by omega)]
    · have e1 : p.Exs = [] := List.eq_nil_of_length_eq_zero (by omega)
      simp [e1]
theorem Good.iw {ts : List Tb} {ps : List Pn} (h : Good ts ps) {i : Nat} (hi : i < ps.length) :
    iw ts ps i = stepW ts ps[i] (if 0 < arity (ps[i]).K then iw ts ps (ps[i]).L.toNat else 0) (if 1 < arity (ps[i]).K then iw ts ps (ps[i]).R.toNat else 0) := by
  obtain ⟨kl, kr⟩ := h.kids hi
  rw [iw_at ts hi]
  refine stepW_congr ts _ (fun h => ?_) (fun h => ?_)
  · rw [if_pos h, if_pos (kl h).2]
  · rw [if_pos h, if_pos (kr h).2]
theorem Good.wid {ts : List Tb} {ps : List Pn} (h : Good ts ps) {i : Nat} (hi : i < ps.length) (env : Int) : ∀ l r, l = (if 0 < arity (ps[i]).K then wid ts ps (ps[i]).L.toNat env else 0) → r = (if 1 < arity (ps[i]).K then wid ts ps (ps[i]).R.toNat (insideW (ps[i]).K env l) else 0) →
    (0 ≤ wid ts ps i env ↔ (0 ≤ l ∧ 0 ≤ r ∧ env + stepW ts ps[i] l r ≤ 200 ∧ ((ps[i]).K = 10 → l = r) ∧ ExsV ps[i] env l r)) ∧ (0 ≤ wid ts ps i env → wid ts ps i env = stepW ts ps[i] l r) := by
  intro l r el er
  obtain ⟨kl, kr⟩ := h.kids hi
  have hw := wid_at ts hi env (h.fld i hi).2.2.1 (fun h => (kl h).2) (fun h => (kr h).2)
  rw [← el, ← er] at hw
  rw [hw]
  by_cases h1 : l < 0
  · rw [if_pos h1]
    exact ⟨⟨fun h => by omega, fun h => by omega⟩, fun h => by omega⟩
  rw [if_neg h1]
  by_cases h2 : r < 0
  · rw [if_pos h2]
    exact ⟨⟨fun h => by omega, fun h => by omega⟩, fun h => by omega⟩
  rw [if_neg h2]
  obtain ⟨n1, n2, _⟩ := nodeW_iff (env := env) (h.fld i hi) (by omega : 0 ≤ l) (by omega : 0 ≤ r) h.db (fun h => by rw [el, if_neg (by omega)])
  exact ⟨⟨fun h => ⟨by omega, by omega, n1.1 h⟩, fun h => n1.2 h.2.2⟩, n2⟩
theorem Good.wid_iw {ts : List Tb} {ps : List Pn} (h : Good ts ps) : ∀ (n i : Nat), i < n → i < ps.length → ∀ env, 0 ≤ Go.Proofs.YtkdeilhkobcglaaDoor.wid ts ps i env → Go.Proofs.YtkdeilhkobcglaaDoor.wid ts ps i env = Go.Proofs.YtkdeilhkobcglaaDoor.iw ts ps i := by
  intro n
  induction n with
  | zero => intro i hi; omega
  | succ n ih =>
    intro i hin hi env hw
    obtain ⟨kl, kr⟩ := h.kids hi
    obtain ⟨h1, h2⟩ := h.wid hi env _ _ rfl rfl
    obtain ⟨l0, r0, _⟩ := h1.1 hw
    rw [h2 hw, h.iw hi]
    refine stepW_congr ts _ (fun ha => ?_) (fun ha => ?_)
    · rw [if_pos ha] at l0 ⊢
      rw [if_pos ha]
      exact ih _ (by have := (kl ha).2; omega) (by have := (kl ha).2; omega) _ l0
    · rw [if_pos ha] at r0 ⊢
      rw [if_pos ha]
      exact ih _ (by have := (kr ha).2; omega) (by have := (kr ha).2; omega) _ r0
/-- a node that is valid in its environment passes, and its kids are valid in theirs -/
theorem Good.down {ts : List Tb} {ps : List Pn} (h : Good ts ps) {G : List Int} (hG : Handed ps (fun env left => env + Go.Proofs.YtkdeilhkobcglaaDoor.iw ts ps left.toNat) 0 G) {i : Nat} (hi : i < ps.length) (hw : 0 ≤ Go.Proofs.YtkdeilhkobcglaaDoor.wid ts ps i (G.getD i 0)) :
    CondI ts ps G i ps[i] ∧ (0 < arity (ps[i]).K → 0 ≤ Go.Proofs.YtkdeilhkobcglaaDoor.wid ts ps (ps[i]).L.toNat (G.getD (ps[i]).L.toNat 0)) ∧ (1 < arity (ps[i]).K → 0 ≤ Go.Proofs.YtkdeilhkobcglaaDoor.wid ts ps (ps[i]).R.toNat (G.getD (ps[i]).R.toNat 0)) := by
  obtain ⟨kl, kr⟩ := h.kids hi
  obtain ⟨h1, h2⟩ := h.wid hi (G.getD i 0) _ _ rfl rfl
  obtain ⟨l0, r0, c1, c2, c3⟩ := h1.1 hw
  have hs := h2 hw
  have hiw := h.wid_iw (i + 1) i (by omega) hi _ hw
  have el : 0 < arity (ps[i]).K → (if 0 < arity (ps[i]).K then Go.Proofs.YtkdeilhkobcglaaDoor.wid ts ps (ps[i]).L.toNat (G.getD i 0) else 0) = Go.Proofs.YtkdeilhkobcglaaDoor.iw ts ps (ps[i]).L.toNat := fun ha => by
    rw [if_pos ha] at l0 ⊢
    exact h.wid_iw i _ (kl ha).2 (by have := (kl ha).2; omega) _ l0
  have er : 1 < arity (ps[i]).K → (if 1 < arity (ps[i]).K then Go.Proofs.YtkdeilhkobcglaaDoor.wid ts ps (ps[i]).R.toNat (insideW (ps[i]).K (G.getD i 0) (if 0 < arity (ps[i]).K then Go.Proofs.YtkdeilhkobcglaaDoor.wid ts ps (ps[i]).L.toNat (G.getD i 0) else 0)) else 0) = Go.Proofs.YtkdeilhkobcglaaDoor.iw ts ps (ps[i]).R.toNat := fun ha => by
    rw [if_pos ha] at r0 ⊢
    exact h.wid_iw i _ (kr ha).2 (by have := (kr ha).2; omega) _ r0
  have ein : 1 < arity (ps[i]).K → insideW (ps[i]).K (G.getD i 0) (if 0 < arity (ps[i]).K then Go.Proofs.YtkdeilhkobcglaaDoor.wid ts ps (ps[i]).L.toNat (G.getD i 0) else 0) = G.getD (ps[i]).R.toNat 0 := fun ha => by
    rw [el (by omega), hG.right i hi ha]
    rfl
  refine ⟨⟨by rw [← hiw, hs]; exact c1, fun hk => ?_, (exsV_congr (h.fld i hi) _ el er).1 c3⟩, fun ha => ?_, fun ha => ?_⟩
  · have ha := arity_k.1 (show _ from by omega : (ps[i]).K = 5 ∨ (ps[i]).K = 6 ∨ (ps[i]).K = 7 ∨ (ps[i]).K = 8 ∨ (ps[i]).K = 10)
    rw [← el (by omega), ← er (by omega)]
    exact c2 hk
  · rw [if_pos ha] at l0
    rw [hG.left i hi ha]
    exact l0
  · rw [ein ha, if_pos ha] at r0
    exact r0
theorem Good.up {ts : List Tb} {ps : List Pn} (h : Good ts ps) {G : List Int} (hG : Handed ps (fun env left => env + Go.Proofs.YtkdeilhkobcglaaDoor.iw ts ps left.toNat) 0 G) (hC : ∀ (i : Nat) (hi : i < ps.length), CondI ts ps G i ps[i]) :
    ∀ (n i : Nat), i < n → i < ps.length → 0 ≤ Go.Proofs.YtkdeilhkobcglaaDoor.wid ts ps i (G.getD i 0) := by
  intro n
  induction n with
  | zero => intro i hi; omega
  | succ n ih =>
    intro i hin hi
    obtain ⟨kl, kr⟩ := h.kids hi
    have l0 : 0 < arity (ps[i]).K → 0 ≤ Go.Proofs.YtkdeilhkobcglaaDoor.wid ts ps (ps[i]).L.toNat (G.getD i 0) := fun ha => by
      have := ih (ps[i]).L.toNat (by have := (kl ha).2; omega) (by have := (kl ha).2; omega)
      rwa [hG.left i hi ha] at this
    have el : 0 < arity (ps[i]).K → (if 0 < arity (ps[i]).K then Go.Proofs.YtkdeilhkobcglaaDoor.wid ts ps (ps[i]).L.toNat (G.getD i 0) else 0) = Go.Proofs.YtkdeilhkobcglaaDoor.iw ts ps (ps[i]).L.toNat := fun ha => by
      rw [if_pos ha]
      exact h.wid_iw i _ (kl ha).2 (by have := (kl ha).2; omega) _ (l0 ha)
    have ein : 1 < arity (ps[i]).K → insideW (ps[i]).K (G.getD i 0) (if 0 < arity (ps[i]).K then Go.Proofs.YtkdeilhkobcglaaDoor.wid ts ps (ps[i]).L.toNat (G.getD i 0) else 0) = G.getD (ps[i]).R.toNat 0 := fun ha => by
      rw [el (by omega), hG.right i hi ha]
      rfl
    have r0 : 1 < arity (ps[i]).K → 0 ≤ Go.Proofs.YtkdeilhkobcglaaDoor.wid ts ps (ps[i]).R.toNat (G.getD (ps[i]).R.toNat 0) := fun ha => ih (ps[i]).R.toNat (by have := (kr ha).2; omega) (by have := (kr ha).2; omega)
    have er : 1 < arity (ps[i]).K → (if 1 < arity (ps[i]).K then Go.Proofs.YtkdeilhkobcglaaDoor.wid ts ps (ps[i]).R.toNat (insideW (ps[i]).K (G.getD i 0) (if 0 < arity (ps[i]).K then Go.Proofs.YtkdeilhkobcglaaDoor.wid ts ps (ps[i]).L.toNat (G.getD i 0) else 0)) else 0) = Go.Proofs.YtkdeilhkobcglaaDoor.iw ts ps (ps[i]).R.toNat := fun ha => by
      rw [if_pos ha, ein ha]
      exact h.wid_iw i _ (kr ha).2 (by have := (kr ha).2; omega) _ (r0 ha)
    obtain ⟨h1, _⟩ := h.wid hi (G.getD i 0) _ _ rfl rfl
    obtain ⟨c1, c2, c3⟩ := hC i hi
    refine h1.2 ⟨?_, ?_, ?_, fun hk => ?_, (exsV_congr (h.fld i hi) _ el er).2 c3⟩
    · split
      · exact l0 (by assumption)
      · omega
    · split
      · rename_i ha
        rw [ein ha]
        exact r0 ha
      · omega
    · rw [h.iw hi] at c1
      rw [stepW_congr ts ps[i] (l' := if 0 < arity (ps[i]).K then Go.Proofs.YtkdeilhkobcglaaDoor.iw ts ps (ps[i]).L.toNat else 0) (r' := if 1 < arity (ps[i]).K then Go.Proofs.YtkdeilhkobcglaaDoor.iw ts ps (ps[i]).R.toNat else 0) (fun ha => by rw [el ha, if_pos ha]) (fun ha => by rw [er ha, if_pos ha])]
      exact c1
    · have ha := arity_k.1 (show _ from by omega : (ps[i]).K = 5 ∨ (ps[i]).K = 6 ∨ (ps[i]).K = 7 ∨ (ps[i]).K = 8 ∨ (ps[i]).K = 10)
      rw [er (by omega), el (by omega)]
      exact c2 hk
theorem Good.iff {ts : List Tb} {ps : List Pn} (h : Good ts ps) {G : List Int} (hG : Handed ps (fun env left => env + Go.Proofs.YtkdeilhkobcglaaDoor.iw ts ps left.toNat) 0 G) :
    0 ≤ Go.Proofs.YtkdeilhkobcglaaDoor.wid ts ps (ps.length - 1) 0 ↔ ∀ (i : Nat) (hi : i < ps.length), CondI ts ps G i ps[i] := by
  have hn := h.some
  constructor
  · intro hw i hi
    have hroot : 0 ≤ Go.Proofs.YtkdeilhkobcglaaDoor.wid ts ps (ps.length - 1) (G.getD (ps.length - 1) 0) := by rw [hG.top]; exact hw
    have hs : Seg (nds ps) 0 (ps.length - 1 + 1) [((ps.length - 1 : Nat) : Int)] := (frm_seg (f := 0) (by simpa using h.ord)).one
    have := hs.all (P := fun j => j < ps.length → 0 ≤ Go.Proofs.YtkdeilhkobcglaaDoor.wid ts ps j (G.getD j 0)) (fun j hP x hx hxl => by
      by_cases hj : j < ps.length
      · obtain ⟨_, d1, d2⟩ := h.down hG hj (hP hj)
        rcases (h.kidsIn hj).2.2 x hx with ⟨ha, rfl⟩ | ⟨ha, rfl⟩
        · exact d1 ha
        · exact d2 ha
      · have : kidsAt (nds ps) j = [] := by simp [kidsAt, nds, hj]
        rw [this] at hx
        simp at hx) (fun x hx _ => by
      simp only [List.mem_singleton] at hx
      subst hx
      simpa using hroot) i (by omega) (by omega) hi
    exact (h.down hG hi this).1
  · intro hC
    have := h.up hG hC ps.length (ps.length - 1) (by omega) (by omega)
    rwa [hG.top] at this
/-- how wide a node may be -/
theorem Good.iw_le {ts : List Tb} {ps : List Pn} (h : Good ts ps) (hx : ∀ p ∈ ps, p.Exs.length ≤ 1048576) : ∀ (n i : Nat), i < n → i < ps.length → 0 ≤ Go.Proofs.YtkdeilhkobcglaaDoor.iw ts ps i ∧ Go.Proofs.YtkdeilhkobcglaaDoor.iw ts ps i ≤ ((i : Int) - Go.Proofs.YtkdeilhkobcglaaDoor.frm (nds ps) i + 1) * 1048576 := by
  intro n
  induction n with
  | zero => intro i hi; omega
  | succ n ih =>
    intro i hin hi
    have hF := h.fld i hi
    have hf := h.frm hi
    have hfl := frm_le (nds ps) i
    rw [h.iw hi]
    have hxl := hx _ (List.getElem_mem hi)
    have hcols := fun (hk : (ps[i]).K = 2) => colsAt_pos h.db (hF.2.2.1.2.1 hk).1 (hF.2.2.1.2.1 hk).2
    obtain ⟨a1, a2, a3⟩ := arity_k (k := (ps[i]).K)
    have k1 := hF.1
    have k2 := hF.2.1
    rcases arity_of hF.1 hF.2.1 with ha | ha | ha
    · have hk : (ps[i]).K = 1 ∨ (ps[i]).K = 2 := by
        by_cases e1 : (ps[i]).K = 3 ∨ (ps[i]).K = 4 ∨ (ps[i]).K = 9
        · have := a2 e1; omega
        · by_cases e2 : (ps[i]).K = 5 ∨ (ps[i]).K = 6 ∨ (ps[i]).K = 7 ∨ (ps[i]).K = 8 ∨ (ps[i]).K = 10
          · have := a1 e2; omega
          · omega
      unfold stepW
      rcases hk with hk | hk
      · simp [hk]; omega
      · have := hcols hk
        simp [hk]; omega
    · obtain ⟨j, e, e1, _, e3⟩ := kid_one' hi hf ha
      have := ih j (by omega) (by omega)
      rw [e3] at this
      rw [if_pos (by omega), e1, show ((j : Int)).toNat = j by omega]
      generalize Go.Proofs.YtkdeilhkobcglaaDoor.iw ts ps j = l at *
      generalize Go.Proofs.YtkdeilhkobcglaaDoor.frm (nds ps) i = f at *
      have hk : (ps[i]).K = 3 ∨ (ps[i]).K = 4 ∨ (ps[i]).K = 9 := by
        by_cases e1 : (ps[i]).K = 1 ∨ (ps[i]).K = 2
        · have := a3 e1; omega
        · by_cases e2 : (ps[i]).K = 5 ∨ (ps[i]).K = 6 ∨ (ps[i]).K = 7 ∨ (ps[i]).K = 8 ∨ (ps[i]).K = 10
          · have := a1 e2; omega
          · omega
      unfold stepW
      rcases hk with hk | hk | hk <;> simp [hk] <;> omega
    · obtain ⟨q, j, e, e0, e1, e2, e3, e4⟩ := kid_two' hi hf ha
      have hq := ih q (by omega) (by omega)
      have hj := ih j (by omega) (by omega)
      rw [e3] at hq
      rw [e4] at hj
      rw [if_pos (by omega), if_pos (by omega), e1, e2, show ((q : Int)).toNat = q by omega, show ((j : Int)).toNat = j by omega]
      generalize Go.Proofs.YtkdeilhkobcglaaDoor.iw ts ps q = l at *
      generalize Go.Proofs.YtkdeilhkobcglaaDoor.iw ts ps j = r at *
      generalize Go.Proofs.YtkdeilhkobcglaaDoor.frm (nds ps) i = f at *
      have hk : (ps[i]).K = 5 ∨ (ps[i]).K = 6 ∨ (ps[i]).K = 7 ∨ (ps[i]).K = 8 ∨ (ps[i]).K = 10 := by
        by_cases e1 : (ps[i]).K = 1 ∨ (ps[i]).K = 2
        · have := a3 e1; omega
        · by_cases e2 : (ps[i]).K = 3 ∨ (ps[i]).K = 4 ∨ (ps[i]).K = 9
          · have := a2 e2; omega
          · omega
      unfold stepW
      rcases hk with hk | hk | hk | hk | hk <;> simp [hk] <;> omega
end Go.Proofs.YtkdeilhkobcglaaDoor
