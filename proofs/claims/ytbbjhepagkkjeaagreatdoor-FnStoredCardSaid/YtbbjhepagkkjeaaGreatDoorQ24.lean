import Derived.Test.YtbbjhepagkkjeaaGreatDoorQ23
import Derived.Test.YtbbjhepagkkjeaaGreatDoorQ1
import Derived.Test.YtbbjhepagkkjeaaGreatDoorQ0
import Derived.Test.YtbbjhepagkkjeaaGreatDoorQ7
namespace Go.Proofs.YtbbjhepagkkjeaaGreatDoor
open Go Go.RowKit
abbrev UsedP (ts : List Tb) (p : Pn) : Prop := usedP ts.length p.K p.T p.M p.Ex.length p.Exs.length
def colsAt (ts : List Tb) (t : Int) : Int := (ts[t.toNat]?.map (fun t => t.Cols)).getD 0
def rawW (ts : List Tb) (p : Pn) (env l r : Int) : Int :=
  if p.K = 2 then colsAt ts p.T
  else if p.K = 3 then (if exOk (env + l) p.Ex = true then l else -1)
  else if p.K = 4 then (if ∀ xs ∈ p.Exs, exOk (env + l) xs = true then (p.Exs.length : Int) else -1)
  else if p.K = 5 ∨ p.K = 6 then l + r
  else if p.K = 7 ∨ p.K = 8 then (if p.M = 1 ∨ exOk (env + l + r) p.Ex = true then l + 1 else -1)
  else if p.K = 10 then (if l = r then l else -1)
  else l
def nodeW (ts : List Tb) (p : Pn) (env l r : Int) : Int := if rawW ts p env l r < 0 ∨ 200 < env + rawW ts p env l r then -1 else rawW ts p env l r
open Classical in
noncomputable def wid (ts : List Tb) (ps : List Pn) (i : Nat) (env : Int) : Int :=
  match ps[i]? with
  | none => -1
  | some p =>
    if ¬ UsedP ts p then -1 else
    let l := if 0 < arity p.K then (if _h : p.L.toNat < i then wid ts ps p.L.toNat env else -1) else 0
    if l < 0 then -1 else
    let r := if 1 < arity p.K then (if _h : p.R.toNat < i then wid ts ps p.R.toNat (insideW p.K env l) else -1) else 0
    if r < 0 then -1 else nodeW ts p env l r
  termination_by i
end Go.Proofs.YtbbjhepagkkjeaaGreatDoor
namespace Go.Proofs.YtbbjhepagkkjeaaGreatDoor
open Go Go.RowKit
theorem Seg.all {ns : List Nd} {P : Nat → Prop} (hk : ∀ i, P i → ∀ x ∈ kidsAt ns i, P x.toNat) {a b : Nat} {ks : List Int} (h : Seg ns a b ks) : (∀ x ∈ ks, P x.toNat) → ∀ j, a ≤ j → j < b → P j := by
  induction h with
  | nil a => intro _ j h1 h2; omega
  | @snoc a c p ks h1 h2 i1 i2 =>
    intro hr j e1 e2
    have hp : P p := by have := hr (p : Int) (by simp); simpa using this
    by_cases hc : j < c
    · exact i1 (fun x hx => hr x (by simp [hx])) j e1 hc
    · by_cases hj : j < p
      · exact i2 (hk p hp) j (by omega) hj
      · obtain rfl : j = p := by omega
        exact hp
theorem frm_seg {ns : List Nd} {i f : Nat} (h : frm ns i = (f : Int)) : Seg ns f i (kidsAt ns i) := by
  rcases frm_cases ns i with ⟨h1, _⟩ | ⟨f', h1, h2⟩
  · omega
  · obtain rfl : f' = f := by omega
    exact h2
theorem frm_all {ns : List Nd} {n : Nat} (h : frm ns n = 0) : ∀ j, j ≤ n → frm ns j ≠ -1 := by
  have hs : Seg ns 0 (n + 1) [(n : Int)] := (frm_seg (f := 0) (by simpa using h)).one
  intro j hj
  obtain ⟨f, hf⟩ := hs.each j (by omega) (by omega)
  rw [frm_some hf]
  omega
theorem kid_one' {ps : List Pn} {i : Nat} (hi : i < ps.length) (h : frm (nds ps) i ≠ -1) (ha : arity (ps[i]).K = 1) : ∃ j : Nat, i = j + 1 ∧ (ps[i]).L = (j : Int) ∧ (ps[i]).R = 0 ∧ frm (nds ps) j = frm (nds ps) i := by
  have hk := kidsAt_nds hi
  unfold kidsP at hk
  rw [if_neg (by omega), if_pos ha] at hk
  by_cases hr : (ps[i]).R = 0
  · rw [if_pos hr] at hk
    cases i with
    | zero => exact absurd (frm_one0 hk) h
    | succ j =>
      rw [frm_one hk] at h ⊢
      by_cases hl : (ps[j + 1]).L = (j : Int)
      · rw [if_pos hl]
        exact ⟨j, rfl, hl, hr, rfl⟩
      · rw [if_neg hl] at h
        exact absurd rfl h
  · rw [if_neg hr] at hk
    exact absurd (frm_neg hk) h
theorem kid_two' {ps : List Pn} {i : Nat} (hi : i < ps.length) (h : frm (nds ps) i ≠ -1) (ha : arity (ps[i]).K = 2) : ∃ q j : Nat, i = j + 1 ∧ q < j ∧ (ps[i]).L = (q : Int) ∧ (ps[i]).R = (j : Int) ∧ frm (nds ps) q = frm (nds ps) i ∧ frm (nds ps) j = (q : Int) + 1 := by
  have hk := kidsAt_nds hi
  unfold kidsP at hk
  rw [if_neg (by omega), if_neg (by omega), if_pos ha] at hk
  cases i with
  | zero => exact absurd (frm_two0 hk) h
  | succ j =>
    rw [frm_two hk] at h ⊢
    by_cases h1 : (ps[j + 1]).R ≠ (j : Int)
    · rw [if_pos h1] at h; exact absurd rfl h
    rw [if_neg h1] at h ⊢
    by_cases h2 : frm (nds ps) j < 1
    · rw [if_pos h2] at h; exact absurd rfl h
    rw [if_neg h2] at h ⊢
    by_cases h3 : (ps[j + 1]).L ≠ frm (nds ps) j - 1
    · rw [if_pos h3] at h; exact absurd rfl h
    rw [if_neg h3] at h ⊢
    have hle := (frm_le (nds ps) j).2
    exact ⟨(frm (nds ps) j - 1).toNat, j, rfl, by omega, by omega, by omega, rfl, by omega⟩
abbrev perRow (k : Int) : Prop := k = 6 ∨ k = 7 ∨ k = 8
abbrev usesEx (k m : Int) : Prop := (k = 3 ∨ k = 7 ∨ k = 8) ∧ m ≠ 1
def FldV (nt : Nat) (p : Pn) : Prop := 1 ≤ p.K ∧ p.K ≤ 10 ∧ usedP nt p.K p.T p.M p.Ex.length p.Exs.length ∧ (arity p.K = 0 → p.L = 0) ∧ (arity p.K ≠ 2 → p.R = 0)
theorem arity_of {k : Int} (h1 : 1 ≤ k) (h2 : k ≤ 10) : arity k = 0 ∨ arity k = 1 ∨ arity k = 2 := by
  unfold arity
  split
  · simp
  split
  · simp
  rw [if_pos ⟨h1, h2⟩]
  simp
def stepW (ts : List Tb) (p : Pn) (l r : Int) : Int :=
  if p.K = 2 then colsAt ts p.T else if p.K = 4 then (p.Exs.length : Int) else if p.K = 5 ∨ p.K = 6 then l + r else if p.K = 7 ∨ p.K = 8 then l + 1 else if p.K = 3 ∨ p.K = 9 ∨ p.K = 10 then l else 0
def iw (ts : List Tb) (ps : List Pn) (i : Nat) : Int :=
  match ps[i]? with
  | none => 0
  | some p => stepW ts p (if _h : p.L.toNat < i then iw ts ps p.L.toNat else 0) (if _h : p.R.toNat < i then iw ts ps p.R.toNat else 0)
  termination_by i
theorem iw_at (ts : List Tb) {ps : List Pn} {i : Nat} (hi : i < ps.length) : iw ts ps i = stepW ts ps[i] (if (ps[i]).L.toNat < i then iw ts ps (ps[i]).L.toNat else 0) (if (ps[i]).R.toNat < i then iw ts ps (ps[i]).R.toNat else 0) := by
  conv => lhs; rw [iw]
  rw [List.getElem?_eq_getElem hi]
  dsimp only
  congr 1
theorem wid_at (ts : List Tb) {ps : List Pn} {i : Nat} (hi : i < ps.length) (env : Int) (hu : UsedP ts ps[i]) (hl : 0 < arity (ps[i]).K → (ps[i]).L.toNat < i) (hr : 1 < arity (ps[i]).K → (ps[i]).R.toNat < i) :
    wid ts ps i env = (if (if 0 < arity (ps[i]).K then wid ts ps (ps[i]).L.toNat env else 0) < 0 then -1 else
      if (if 1 < arity (ps[i]).K then wid ts ps (ps[i]).R.toNat (insideW (ps[i]).K env (if 0 < arity (ps[i]).K then wid ts ps (ps[i]).L.toNat env else 0)) else 0) < 0 then -1 else
      nodeW ts ps[i] env (if 0 < arity (ps[i]).K then wid ts ps (ps[i]).L.toNat env else 0) (if 1 < arity (ps[i]).K then wid ts ps (ps[i]).R.toNat (insideW (ps[i]).K env (if 0 < arity (ps[i]).K then wid ts ps (ps[i]).L.toNat env else 0)) else 0)) := by
  have el : (if 0 < arity (ps[i]).K then (if _h : (ps[i]).L.toNat < i then wid ts ps (ps[i]).L.toNat env else -1) else 0) = (if 0 < arity (ps[i]).K then wid ts ps (ps[i]).L.toNat env else 0) := by
    split
    · rename_i h; rw [dif_pos (hl h)]
    · rfl
  have er : ∀ e, (if 1 < arity (ps[i]).K then (if _h : (ps[i]).R.toNat < i then wid ts ps (ps[i]).R.toNat e else -1) else 0) = (if 1 < arity (ps[i]).K then wid ts ps (ps[i]).R.toNat e else 0) := fun e => by
    split
    · rename_i h; rw [dif_pos (hr h)]
    · rfl
  conv => lhs; rw [wid]
  rw [List.getElem?_eq_getElem hi]
  dsimp only
  rw [if_neg (by simpa using hu)]
  simp only [el, er]
structure Handed (ps : List Pn) (f : Int → Int → Int) (root : Int) (G : List Int) : Prop where
  len : G.length = ps.length
  top : G.getD (ps.length - 1) 0 = root
  left : ∀ (i : Nat) (hi : i < ps.length), 0 < arity (ps[i]).K → G.getD (ps[i]).L.toNat 0 = G.getD i 0
  right : ∀ (i : Nat) (hi : i < ps.length), 1 < arity (ps[i]).K → G.getD (ps[i]).R.toNat 0 = if perRow (ps[i]).K then f (G.getD i 0) (ps[i]).L else G.getD i 0
structure HandTo (ps : List Pn) (f : Int → Int → Int) (root : Int) (G : List Int) (i : Nat) : Prop where
  len : G.length = ps.length
  top : G.getD (ps.length - 1) 0 = root
  seg : ∃ Ls, Seg (nds ps) 0 i Ls ∧ ∀ (j : Nat) (hj : j < ps.length), i ≤ j →
    (0 < arity (ps[j]).K → (i ≤ (ps[j]).L.toNat ∨ (ps[j]).L ∈ Ls) ∧ G.getD (ps[j]).L.toNat 0 = G.getD j 0) ∧
    (1 < arity (ps[j]).K → (i ≤ (ps[j]).R.toNat ∨ (ps[j]).R ∈ Ls) ∧ G.getD (ps[j]).R.toNat 0 = if perRow (ps[j]).K then f (G.getD j 0) (ps[j]).L else G.getD j 0)
theorem HandTo.start {ps : List Pn} (h0 : 1 ≤ ps.length) (hf : frm (nds ps) (ps.length - 1) = 0) (f : Int → Int → Int) (root : Int) {G : List Int} (hl : G.length = ps.length) (ht : G.getD (ps.length - 1) 0 = root) : HandTo ps f root G ps.length :=
  ⟨hl, ht, [((ps.length - 1 : Nat) : Int)], by
    have := (frm_seg (f := 0) (by simpa using hf)).one
    rwa [show ps.length - 1 + 1 = ps.length by omega] at this, fun j hj h => by omega⟩
theorem HandTo.done {ps : List Pn} {f : Int → Int → Int} {root : Int} {G : List Int} (h : HandTo ps f root G 0) : Handed ps f root G := by
  obtain ⟨Ls, _, h2⟩ := h.seg
  exact ⟨h.len, h.top, fun i hi ha => ((h2 i hi (by omega)).1 ha).2, fun i hi ha => ((h2 i hi (by omega)).2 ha).2⟩
theorem HandTo.step {ps : List Pn} {f : Int → Int → Int} {root : Int} {G G' : List Int} {k : Nat} (h : HandTo ps f root G (k + 1)) (hk : k < ps.length) (hlen : G'.length = ps.length)
    (hin : (0 < arity (ps[k]).K → (ps[k]).L ∈ kidsAt (nds ps) k) ∧ (1 < arity (ps[k]).K → (ps[k]).R ∈ kidsAt (nds ps) k))
    (hsame : ∀ x : Nat, (x : Int) ∉ kidsAt (nds ps) k → G'.getD x 0 = G.getD x 0) (hL : 0 < arity (ps[k]).K → G'.getD (ps[k]).L.toNat 0 = G.getD k 0)
    (hR : 1 < arity (ps[k]).K → G'.getD (ps[k]).R.toNat 0 = if perRow (ps[k]).K then f (G.getD k 0) (ps[k]).L else G.getD k 0) : HandTo ps f root G' k := by
  obtain ⟨Ls, hs, hr⟩ := h.seg
  obtain ⟨A, rfl⟩ := hs.last
  obtain ⟨p, c, e1, _, hA, hK⟩ := hs.inv
  obtain rfl : p = k := by omega
  have hup : ∀ x : Nat, p ≤ x → (x : Int) ∉ kidsAt (nds ps) p := fun x hx hm => by
    obtain ⟨q, e, _, h2⟩ := hK.kid _ hm
    omega
  have hto : ∀ y : Int, y ∈ A ++ [(p : Int)] ∨ p + 1 ≤ y.toNat → G'.getD y.toNat 0 = G.getD y.toNat 0 := fun y hy => by
    apply hsame
    rcases hy with hy | hy
    · rcases List.mem_append.1 hy with h' | h'
      · obtain ⟨q, e, _, h2⟩ := hA.kid _ h'
        intro hm
        obtain ⟨q', e', h3, _⟩ := hK.kid _ hm
        omega
      · simp only [List.mem_singleton] at h'
        exact hup _ (by omega)
    · exact hup _ (by omega)
  have hnew : ∀ y : Int, (p + 1 ≤ y.toNat ∨ y ∈ A ++ [(p : Int)]) → (p ≤ y.toNat ∨ y ∈ A ++ kidsAt (nds ps) p) := fun y hy => by
    rcases hy with h' | h'
    · exact Or.inl (by omega)
    · rcases List.mem_append.1 h' with h'' | h''
      · exact Or.inr (List.mem_append_left _ h'')
      · simp only [List.mem_singleton] at h''
        exact Or.inl (by omega)
  refine ⟨hlen, ?_, A ++ kidsAt (nds ps) p, hA.join hK, fun j hj hjp => ?_⟩
  · rw [hsame _ (hup _ (by omega))]
    exact h.top
  · by_cases e : j = p
    · subst e
      rw [hsame j (hup _ (by omega))]
      exact ⟨fun ha => ⟨Or.inr (List.mem_append_right _ (hin.1 ha)), hL ha⟩, fun ha => ⟨Or.inr (List.mem_append_right _ (hin.2 ha)), hR ha⟩⟩
    · obtain ⟨r1, r2⟩ := hr j hj (by omega)
      rw [hsame j (hup _ (by omega))]
      refine ⟨fun ha => ?_, fun ha => ?_⟩
      · obtain ⟨h1, h2⟩ := r1 ha
        exact ⟨hnew _ h1, by rw [hto _ h1.symm]; exact h2⟩
      · obtain ⟨h1, h2⟩ := r2 ha
        exact ⟨hnew _ h1, by rw [hto _ h1.symm]; exact h2⟩
def ExsV (p : Pn) (env l r : Int) : Prop := if usesEx p.K p.M then exOk (env + l + (if perRow p.K then r else 0)) p.Ex = true else ∀ xs ∈ p.Exs, exOk (env + l) xs = true
theorem colsAt_pos {ts : List Tb} (hd : DbV ts) {t : Int} (h0 : 0 ≤ t) (h1 : t < (ts.length : Int)) : 1 ≤ colsAt ts t ∧ colsAt ts t ≤ 16 := by
  have hi : t.toNat < ts.length := by omega
  unfold colsAt
  rw [List.getElem?_eq_getElem hi]
  have := hd.each _ hi
  exact ⟨this.2.1, this.2.2.1⟩
theorem nodeW_iff {ts : List Tb} {p : Pn} {env l r : Int} (hF : FldV ts.length p) (hl : 0 ≤ l) (hr : 0 ≤ r) (hd : DbV ts) (h0 : arity p.K = 0 → l = 0) :
    (0 ≤ nodeW ts p env l r ↔ (env + stepW ts p l r ≤ 200 ∧ (p.K = 10 → l = r) ∧ ExsV p env l r)) ∧ (0 ≤ nodeW ts p env l r → nodeW ts p env l r = stepW ts p l r) ∧ 0 ≤ stepW ts p l r := by
  obtain ⟨k1, k2, hu, hL, hR⟩ := hF
  have hc : p.K = 1 ∨ p.K = 2 ∨ p.K = 3 ∨ p.K = 4 ∨ p.K = 5 ∨ p.K = 6 ∨ p.K = 7 ∨ p.K = 8 ∨ p.K = 9 ∨ p.K = 10 := by omega
  obtain ⟨u1, u2, u3, u4, u5, u6⟩ := hu
  have hcols := fun h => colsAt_pos hd (u2 h).1 (u2 h).2
  unfold nodeW rawW stepW ExsV usesEx perRow
  generalize colsAt ts p.T = C at *
  rcases hc with h | h | h | h | h | h | h | h | h | h
  · have e0 := h0 (by rw [h]; rfl)
    have e1 : p.Exs = [] := List.eq_nil_of_length_eq_zero (by omega)
    simp [h, e0, e1]
    split <;> omega
  · have := hcols h
    have e1 : p.Exs = [] := List.eq_nil_of_length_eq_zero (by omega)
    simp [h, e1]
    refine ⟨?_, ?_, by omega⟩ <;> split <;> omega
  · have e1 := u3 (by omega)
    simp [h, e1]
    by_cases hx : exOk (env + l) p.Ex = true
    · simp [hx]
      refine ⟨?_, ?_, by omega⟩ <;> split <;> omega
    · simp [hx, hl]
  · simp [h]
    by_cases hx : ∀ xs ∈ p.Exs, exOk (env + l) xs = true
    · simp only [if_pos hx]
      refine ⟨⟨fun hh => ⟨by split at hh <;> omega, hx⟩, fun hh => ?_⟩, fun hh => ?_⟩
      · rw [if_neg (by omega)]; omega
      · split at hh
        · omega
        · rw [if_neg (by assumption)]
    · simp only [if_neg hx]
      exact ⟨⟨fun hh => by simp at hh, fun hh => absurd hh.2 hx⟩, fun hh => by simp at hh⟩
  · have e1 : p.Exs = [] := List.eq_nil_of_length_eq_zero (by omega)
    simp [h, e1]
    refine ⟨?_, ?_, by omega⟩ <;> split <;> omega
  · have e1 : p.Exs = [] := List.eq_nil_of_length_eq_zero (by omega)
    simp [h, e1]
    refine ⟨?_, ?_, by omega⟩ <;> split <;> omega
  · have e1 := u3 (by omega)
    simp [h, e1]
    by_cases hx : exOk (env + l + r) p.Ex = true
    · simp [hx]
      refine ⟨?_, ?_, by omega⟩ <;> split <;> omega
    · simp [hx]; omega
  · have e1 : p.Exs = [] := List.eq_nil_of_length_eq_zero (by omega)
    by_cases hm : p.M = 1
    · simp [h, hm, e1]
      refine ⟨?_, ?_, by omega⟩ <;> split <;> omega
    · simp [h, hm]
      by_cases hx : exOk (env + l + r) p.Ex = true
      · simp [hx]
        refine ⟨?_, ?_, by omega⟩ <;> split <;> omega
      · simp [hx]; omega
  · have e1 : p.Exs = [] := List.eq_nil_of_length_eq_zero (by omega)
    simp [h, e1, hl]
    refine ⟨?_, ?_⟩ <;> split <;> omega
  · have e1 : p.Exs = [] := List.eq_nil_of_length_eq_zero (by omega)
    simp [h, e1, hl]
    by_cases hx : l = r
    · simp [hx]
      refine ⟨?_, ?_⟩ <;> split <;> omega
    · simp [hx]
end Go.Proofs.YtbbjhepagkkjeaaGreatDoor
namespace Go.Proofs.YtbbjhepagkkjeaaGreatDoor
open Go Go.RowKit
def nOk (u : Bool) (n lo hi : Int) : Bool := if u then decide (lo ≤ n ∧ n ≤ hi) else decide (n = 0)
theorem numberOk_calls (u : Bool) (n lo hi : Int) (w : World) : Calls Tryz.prog 110 #[.bool u, .int .i64 n, .int .i64 lo, .int .i64 hi] w fun e w' => e = .returned (.bool (nOk u n lo hi)) ∧ w' = w := by
  cases u
  · have HE : Hid (nOk false n lo hi = (n == 0)) := by
      show _ = _
      unfold nOk
      rw [Bool.eq_iff_iff]
      simp
    generalize nOk false n lo hi = E at *
    go_enter Tryz.func110, Tryz.ntmps110
    go_wp2
    go_ret
    exact ⟨congrArg (fun z => Ending.returned (.bool z)) HE.out.symm, rfl⟩
  · by_cases h1 : lo ≤ n
    · by_cases h2 : n ≤ hi
      · have HE : Hid (nOk true n lo hi = true) := by
          show _ = _
          unfold nOk
          simp [h1, h2]
        generalize nOk true n lo hi = E at *
        go_enter Tryz.func110, Tryz.ntmps110
        go_wp2
        go_ret
        exact ⟨congrArg (fun z => Ending.returned (.bool z)) HE.out.symm, rfl⟩
      · have HE : Hid (nOk true n lo hi = false) := by
          show _ = _
          unfold nOk
          simp [h1, h2]
        generalize nOk true n lo hi = E at *
        go_enter Tryz.func110, Tryz.ntmps110
        go_wp2
        go_ret
        exact ⟨congrArg (fun z => Ending.returned (.bool z)) HE.out.symm, rfl⟩
    · have HE : Hid (nOk true n lo hi = false) := by
        show _ = _
        unfold nOk
        simp [h1]
      generalize nOk true n lo hi = E at *
      go_enter Tryz.func110, Tryz.ntmps110
      go_wp2
      go_ret
      exact ⟨congrArg (fun z => Ending.returned (.bool z)) HE.out.symm, rfl⟩
theorem fUses_calls (b0 b1 b2 b3 b4 b5 b6 b7 : Bool) (m : Int) (w : World) : Calls Tryz.prog 111 #[.agg #[.bool b0, .bool b1, .bool b2, .bool b3, .bool b4, .bool b5, .bool b6, .bool b7], .int .i64 m] w fun e w' => e = .returned (.bool (b2 && (m != 1))) ∧ Below w.heap.size w w' := by
  cases b2
  · go_enter Tryz.func111, Tryz.ntmps111
    go_wp2
    go_ret
    exact ⟨rfl, bA (Below.refl _ _) _⟩
  · go_enter Tryz.func111, Tryz.ntmps111
    go_wp2
    go_ret
    exact ⟨rfl, bA (Below.refl _ _) _⟩
theorem fKids_none (b0 b1 b2 b3 b6 b7 : Bool) (L R : Int) (w : World) : Calls Tryz.prog 112 #[.agg #[.bool b0, .bool b1, .bool b2, .bool b3, .bool false, .bool false, .bool b6, .bool b7], .int .i64 L, .int .i64 R] w fun e w' => e = .returned (.slice none 0 0) ∧ Below w.heap.size w w' := by
  go_enter Tryz.func112, Tryz.ntmps112
  go_wp2
  go_ret
  exact ⟨rfl, (by (repeat (first | exact Below.refl _ _ | refine bA ?_ _ | refine Below.setCell ?_ (by simp <;> omega) _)))⟩
end Go.Proofs.YtbbjhepagkkjeaaGreatDoor
