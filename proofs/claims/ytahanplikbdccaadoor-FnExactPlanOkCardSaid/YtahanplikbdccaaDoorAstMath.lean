/-
  TREES IN A LIST, of no program: the order of the nodes, their depths.
-/
namespace Go.Proofs.YtahanplikbdccaaDoor

structure Nd where
  K : Int
  N : Int
  M : Int
  S : ByteArray
  T : ByteArray
  Kids : List Int

def kidsAt (ns : List Nd) (p : Nat) : List Int := ((ns[p]?).map Nd.Kids).getD []
def kindAt (ns : List Nd) (p : Nat) : Int := ((ns[p]?).map Nd.K).getD 0

/-- the places a .. b-1 are the stretches of ks, one behind the other -/
inductive Seg (ns : List Nd) : Nat → Nat → List Int → Prop
  | nil (a : Nat) : Seg ns a a []
  | snoc {a c p : Nat} {ks : List Int} : Seg ns a c ks → Seg ns c p (kidsAt ns p) → Seg ns a (p + 1) (ks ++ [(p : Int)])

theorem Seg.le {ns : List Nd} {a b : Nat} {ks : List Int} (h : Seg ns a b ks) : a ≤ b := by
  induction h with
  | nil a => exact Nat.le_refl _
  | snoc _ _ h1 h2 => omega

theorem Seg.inv {ns : List Nd} {a b : Nat} {ks : List Int} {x : Int} (h : Seg ns a b (ks ++ [x])) : ∃ p c, b = p + 1 ∧ x = (p : Int) ∧ Seg ns a c ks ∧ Seg ns c p (kidsAt ns p) := by
  generalize e : ks ++ [x] = l at h
  cases h with
  | nil a => simp at e
  | @snoc _ c p ks' h1 h2 =>
    obtain ⟨e1, e2⟩ := List.append_inj' e rfl
    subst e1
    simp at e2
    exact ⟨p, c, rfl, e2, h1, h2⟩

theorem Seg.nil_inv {ns : List Nd} {a b : Nat} (h : Seg ns a b []) : a = b := by
  generalize e : ([] : List Int) = l at h
  cases h with
  | nil a => rfl
  | snoc h1 h2 => simp at e

/-- the place before the first stretch is told by the end and the roots -/
theorem Seg.uniqL {ns : List Nd} {a b : Nat} {ks : List Int} (h : Seg ns a b ks) : ∀ a', Seg ns a' b ks → a' = a := by
  induction h with
  | nil a => intro a' h'; exact h'.nil_inv
  | @snoc a c p ks h1 h2 i1 i2 =>
    intro a' h'
    obtain ⟨p', c', e1, e2, h3, h4⟩ := h'.inv
    obtain rfl : p' = p := by omega
    obtain rfl := i2 _ h4
    exact i1 _ h3

theorem Seg.uniqK {ns : List Nd} {a b : Nat} {ks : List Int} (h : Seg ns a b ks) : ∀ ks', Seg ns a b ks' → ks' = ks := by
  induction h with
  | nil a =>
    intro ks' h'
    cases h' with
    | nil => rfl
    | snoc h1 h2 => have := h1.le; have := h2.le; omega
  | @snoc a c p ks h1 h2 i1 i2 =>
    intro ks' h'
    generalize e : p + 1 = b at h'
    cases h' with
    | nil => have := h1.le; have := h2.le; omega
    | @snoc _ c' p' ks' h3 h4 =>
      obtain rfl : p = p' := by omega
      obtain rfl := h2.uniqL _ h4
      rw [i1 _ h3]

theorem Seg.join {ns : List Nd} {a b c : Nat} {A B : List Int} (h : Seg ns a b A) (h' : Seg ns b c B) : Seg ns a c (A ++ B) := by
  induction h' with
  | nil a => simpa using h
  | snoc h1 h2 i1 i2 =>
    rw [← List.append_assoc]
    exact Seg.snoc (i1 h) h2

theorem Seg.one {ns : List Nd} {c p : Nat} (h : Seg ns c p (kidsAt ns p)) : Seg ns c (p + 1) [(p : Int)] := by
  have := Seg.snoc (Seg.nil c) h
  simpa using this

theorem Seg.split {ns : List Nd} {a c : Nat} {A : List Int} : ∀ (B : List Int) {b : Nat}, b = c → Seg ns a c (A ++ B.reverse) → ∃ m, Seg ns a m A ∧ Seg ns m c B.reverse := by
  intro B
  induction B generalizing c with
  | nil => intro b _ h; exact ⟨c, by simpa using h, Seg.nil c⟩
  | cons x B ih =>
    intro b _ h
    rw [List.reverse_cons, ← List.append_assoc] at h
    obtain ⟨p, c', rfl, rfl, h1, h2⟩ := h.inv
    obtain ⟨m, h3, h4⟩ := ih (b := c') rfl h1
    refine ⟨m, h3, ?_⟩
    rw [List.reverse_cons]
    exact Seg.snoc h4 h2
theorem Seg.split' {ns : List Nd} {a c : Nat} {A B : List Int} (h : Seg ns a c (A ++ B)) : ∃ m, Seg ns a m A ∧ Seg ns m c B := by
  have := Seg.split (ns := ns) (a := a) (c := c) (A := A) B.reverse rfl (by simpa using h)
  simpa using this

theorem Seg.prefix {ns : List Nd} {a b : Nat} {ks : List Int} (h : Seg ns a b ks) : ∀ k, a ≤ k → k ≤ b → ∃ L, Seg ns a k L := by
  induction h with
  | nil a => intro k h1 h2; obtain rfl : k = a := by omega
             exact ⟨[], Seg.nil _⟩
  | @snoc a c p ks h1 h2 i1 i2 =>
    intro k e1 e2
    by_cases hk : k ≤ c
    · exact i1 k e1 hk
    · by_cases hp : k = p + 1
      · subst hp; exact ⟨_, Seg.snoc h1 h2⟩
      · obtain ⟨L, hL⟩ := i2 k (by omega) (by omega)
        exact ⟨_, h1.join hL⟩

/-- the step of a stack -/
theorem Seg.push {ns : List Nd} {k : Nat} {L : List Int} (h : Seg ns 0 k L) (_ : (kidsAt ns k).length ≤ L.length) (hd : L.drop (L.length - (kidsAt ns k).length) = kidsAt ns k) :
    Seg ns 0 (k + 1) (L.take (L.length - (kidsAt ns k).length) ++ [(k : Int)]) := by
  rw [← List.take_append_drop (L.length - (kidsAt ns k).length) L, hd] at h
  obtain ⟨m, h1, h2⟩ := h.split'
  exact Seg.snoc h1 h2
theorem Seg.stuck {ns : List Nd} {k : Nat} {L L' : List Int} (h : Seg ns 0 k L) (h' : Seg ns 0 (k + 1) L') : (kidsAt ns k).length ≤ L.length ∧ L.drop (L.length - (kidsAt ns k).length) = kidsAt ns k := by
  generalize e : k + 1 = b at h'
  cases h' with
  | nil => omega
  | @snoc _ c p ks h1 h2 =>
    obtain rfl : k = p := by omega
    obtain rfl := h.uniqK _ (h1.join h2)
    simp
/-- the last root -/
theorem Seg.last {ns : List Nd} {k : Nat} {L : List Int} (h : Seg ns 0 (k + 1) L) : ∃ A, L = A ++ [(k : Int)] := by
  generalize e : k + 1 = b at h
  cases h with
  | nil => omega
  | @snoc _ c p ks h1 h2 =>
    obtain rfl : k = p := by omega
    exact ⟨_, rfl⟩
theorem Seg.kid {ns : List Nd} {a b : Nat} {ks : List Int} (h : Seg ns a b ks) : ∀ x ∈ ks, ∃ p : Nat, x = (p : Int) ∧ a ≤ p ∧ p < b := by
  induction h with
  | nil a => intro x hx; simp at hx
  | @snoc a c p ks h1 h2 i1 i2 =>
    intro x hx
    have := h1.le
    have := h2.le
    rcases List.mem_append.1 hx with h | h
    · obtain ⟨q, e, h3, h4⟩ := i1 x h
      exact ⟨q, e, h3, by omega⟩
    · simp at h
      exact ⟨p, h, by omega, by omega⟩

/-- the depths of the first nodes -/
def most (ds : List Int) (ks : List Int) : Int := ks.foldl (fun d x => if d < ds.getD x.toNat 0 then ds.getD x.toNat 0 else d) 0
def depTo (ns : List Nd) : Nat → List Int
  | 0 => []
  | k + 1 => depTo ns k ++ [most (depTo ns k) (kidsAt ns k) + 1]
def dep (ns : List Nd) (k : Nat) : Int := most (depTo ns k) (kidsAt ns k) + 1
theorem depTo_length (ns : List Nd) : ∀ k, (depTo ns k).length = k
  | 0 => rfl
  | k + 1 => by simp [depTo, depTo_length ns k]
theorem depTo_get (ns : List Nd) : ∀ k j, j < k → (depTo ns k).getD j 0 = dep ns j
  | 0, j, h => by omega
  | k + 1, j, h => by
    by_cases e : j = k
    · subst e
      simp [depTo, dep, List.getD_eq_getElem?_getD, depTo_length]
    · have := depTo_get ns k j (by omega)
      rw [List.getD_eq_getElem?_getD] at this
      rw [depTo, List.getD_eq_getElem?_getD, List.getElem?_append_left (by rw [depTo_length]; omega)]
      exact this
theorem foldmost {ds : List Int} : ∀ (ks : List Int) (d : Int), d ≤ ks.foldl (fun d x => if d < ds.getD x.toNat 0 then ds.getD x.toNat 0 else d) d ∧ ∀ x ∈ ks, ds.getD x.toNat 0 ≤ ks.foldl (fun d x => if d < ds.getD x.toNat 0 then ds.getD x.toNat 0 else d) d
  | [], d => ⟨Int.le_refl _, fun x hx => by simp at hx⟩
  | y :: ks, d => by
    simp only [List.foldl_cons]
    obtain ⟨h1, h2⟩ := foldmost (ds := ds) ks (if d < ds.getD y.toNat 0 then ds.getD y.toNat 0 else d)
    have e1 : d ≤ (if d < ds.getD y.toNat 0 then ds.getD y.toNat 0 else d) := by split <;> omega
    have e2 : ds.getD y.toNat 0 ≤ (if d < ds.getD y.toNat 0 then ds.getD y.toNat 0 else d) := by split <;> omega
    refine ⟨Int.le_trans e1 h1, fun x hx => ?_⟩
    rcases List.mem_cons.1 hx with rfl | h
    · exact Int.le_trans e2 h1
    · exact h2 x h
theorem most_le {ds : List Int} {B : Int} (hB : 0 ≤ B) (hd : ∀ j, ds.getD j 0 ≤ B) : ∀ (ks : List Int) (d : Int), d ≤ B → ks.foldl (fun d x => if d < ds.getD x.toNat 0 then ds.getD x.toNat 0 else d) d ≤ B
  | [], d, h => h
  | y :: ks, d, h => by
    simp only [List.foldl_cons]
    refine most_le hB hd ks _ ?_
    have := hd y.toNat
    split <;> omega
theorem dep_nonneg (ns : List Nd) (k : Nat) : 1 ≤ dep ns k := by
  have := (foldmost (ds := depTo ns k) (kidsAt ns k) 0).1
  unfold dep most
  omega
theorem depTo_bound (ns : List Nd) : ∀ k j, (depTo ns k).getD j 0 ≤ k
  | 0, j => by simp [depTo]
  | k + 1, j => by
    rw [depTo, List.getD_eq_getElem?_getD]
    by_cases h : j < k
    · rw [List.getElem?_append_left (by rw [depTo_length]; omega)]
      have := depTo_bound ns k j
      rw [List.getD_eq_getElem?_getD] at this
      omega
    · by_cases e : j = k
      · subst e
        rw [List.getElem?_append_right (by rw [depTo_length]; omega)]
        simp [depTo_length]
        have := most_le (ds := depTo ns j) (B := j) (by omega) (depTo_bound ns j) (kidsAt ns j) 0 (by omega)
        unfold most
        omega
      · rw [List.getElem?_eq_none (by simp [depTo_length]; omega)]
        simp; omega
theorem dep_bound (ns : List Nd) (k : Nat) : dep ns k ≤ k + 1 := by
  have := most_le (ds := depTo ns k) (B := k) (by omega) (depTo_bound ns k) (kidsAt ns k) 0 (by omega)
  unfold dep most
  omega
theorem dep_kid (ns : List Nd) (p q : Nat) (h : (q : Int) ∈ kidsAt ns p) (hq : q < p) : dep ns q < dep ns p := by
  have := (foldmost (ds := depTo ns p) (kidsAt ns p) 0).2 _ h
  rw [show ((q : Int)).toNat = q by simp, depTo_get ns p q hq] at this
  rw [show dep ns p = most (depTo ns p) (kidsAt ns p) + 1 from rfl]
  unfold most
  omega
theorem Seg.deep {ns : List Nd} {a b : Nat} {ks : List Int} (h : Seg ns a b ks) : ∀ j, a ≤ j → j < b → ∃ r : Nat, (r : Int) ∈ ks ∧ dep ns j ≤ dep ns r := by
  induction h with
  | nil a => intro j h1 h2; omega
  | @snoc a c p ks h1 h2 i1 i2 =>
    intro j e1 e2
    by_cases hc : j < c
    · obtain ⟨r, hr, hd⟩ := i1 j e1 hc
      exact ⟨r, by simp [hr], hd⟩
    · refine ⟨p, by simp, ?_⟩
      by_cases hp : j = p
      · subst hp; exact Int.le_refl _
      · obtain ⟨r, hr, hd⟩ := i2 j (by omega) (by omega)
        obtain ⟨q, e, h3, h4⟩ := h2.kid _ hr
        have e' : r = q := by omega
        subst e'
        have := dep_kid ns p r hr h4
        omega
/-- in a whole tree no node is deeper than the last -/
theorem deep_all {ns : List Nd} {n : Nat} (h : Seg ns 0 (n + 1) [(n : Int)]) (j : Nat) (hj : j ≤ n) : dep ns j ≤ dep ns n := by
  obtain ⟨r, hr, hd⟩ := h.deep j (by omega) (by omega)
  simp at hr
  have : r = n := by omega
  subst this
  exact hd
end Go.Proofs.YtahanplikbdccaaDoor
