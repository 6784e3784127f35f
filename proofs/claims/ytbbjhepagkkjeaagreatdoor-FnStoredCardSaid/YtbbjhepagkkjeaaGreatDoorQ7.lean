import Derived.Laws.Strings
namespace Go.Proofs.YtbbjhepagkkjeaaGreatDoor
structure Nd where
  K : Int
  N : Int
  M : Int
  S : ByteArray
  T : ByteArray
  Kids : List Int
def kidsAt (ns : List Nd) (p : Nat) : List Int := ((ns[p]?).map Nd.Kids).getD []
def kindAt (ns : List Nd) (p : Nat) : Int := ((ns[p]?).map Nd.K).getD 0
inductive Seg (ns : List Nd) : Nat → Nat → List Int → Prop
  | nil (a : Nat) : Seg ns a a []
  | snoc {a c p : Nat} {ks : List Int} : Seg ns a c ks → Seg ns c p (kidsAt ns p) → Seg ns a (p + 1) (ks ++ [(p : Int)])
theorem Seg.le {ns : List Nd} {a b : Nat} {ks : List Int} (h : Seg ns a b ks) : a ≤ b := by
  induction h with
  | nil a => exact Nat.le_refl _
  | snoc _ _ h1 h2 => omega
theorem Seg.inv {ns : List Nd} {a b : Nat} {ks : List Int} {x : Int} (h : Seg ns a b (ks ++ [x])) : ∃ p c, b = p + 1 ∧ x = (p : Int) ∧ Seg ns a c ks ∧ Seg ns c p (kidsAt ns p) := by
  generalize e : ks ++ [x] = l at h
  cases h with
  | nil a => simp at e
  | @snoc _ c p ks' h1 h2 =>
    obtain ⟨e1, e2⟩ := List.append_inj' e rfl
    subst e1
    simp at e2
    exact ⟨p, c, rfl, e2, h1, h2⟩
theorem Seg.nil_inv {ns : List Nd} {a b : Nat} (h : Seg ns a b []) : a = b := by
  generalize e : ([] : List Int) = l at h
  cases h with
  | nil a => rfl
  | snoc h1 h2 => simp at e
theorem Seg.uniqL {ns : List Nd} {a b : Nat} {ks : List Int} (h : Seg ns a b ks) : ∀ a', Seg ns a' b ks → a' = a := by
  induction h with
  | nil a => intro a' h'; exact h'.nil_inv
  | @snoc a c p ks h1 h2 i1 i2 =>
    intro a' h'
    obtain ⟨p', c', e1, e2, h3, h4⟩ := h'.inv
    obtain rfl : p' = p := by omega
    obtain rfl := i2 _ h4
    exact i1 _ h3
theorem Seg.join {ns : List Nd} {a b c : Nat} {A B : List Int} (h : Seg ns a b A) (h' : Seg ns b c B) : Seg ns a c (A ++ B) := by
  induction h' with
  | nil a => simpa using h
  | snoc h1 h2 i1 i2 =>
    rw [← List.append_assoc]
    exact Seg.snoc (i1 h) h2
theorem Seg.one {ns : List Nd} {c p : Nat} (h : Seg ns c p (kidsAt ns p)) : Seg ns c (p + 1) [(p : Int)] := by
  have := Seg.snoc (Seg.nil c) h
  simpa using this
theorem Seg.split {ns : List Nd} {a c : Nat} {A : List Int} : ∀ (B : List Int) {b : Nat}, b = c → Seg ns a c (A ++ B.reverse) → ∃ m, Seg ns a m A ∧ Seg ns m c B.reverse := by
  intro B
  induction B generalizing c with
  | nil => intro b _ h; exact ⟨c, by simpa using h, Seg.nil c⟩
  | cons x B ih =>
    intro b _ h
    rw [List.reverse_cons, ← List.append_assoc] at h
    obtain ⟨p, c', rfl, rfl, h1, h2⟩ := h.inv
    obtain ⟨m, h3, h4⟩ := ih (b := c') rfl h1
    refine ⟨m, h3, ?_⟩
    rw [List.reverse_cons]
    exact Seg.snoc h4 h2
theorem Seg.split' {ns : List Nd} {a c : Nat} {A B : List Int} (h : Seg ns a c (A ++ B)) : ∃ m, Seg ns a m A ∧ Seg ns m c B := by
  have := Seg.split (ns := ns) (a := a) (c := c) (A := A) B.reverse rfl (by simpa using h)
  simpa using this
theorem Seg.push {ns : List Nd} {k : Nat} {L : List Int} (h : Seg ns 0 k L) (_ : (kidsAt ns k).length ≤ L.length) (hd : L.drop (L.length - (kidsAt ns k).length) = kidsAt ns k) :
    Seg ns 0 (k + 1) (L.take (L.length - (kidsAt ns k).length) ++ [(k : Int)]) := by
  rw [← List.take_append_drop (L.length - (kidsAt ns k).length) L, hd] at h
  obtain ⟨m, h1, h2⟩ := h.split'
  exact Seg.snoc h1 h2
theorem Seg.last {ns : List Nd} {k : Nat} {L : List Int} (h : Seg ns 0 (k + 1) L) : ∃ A, L = A ++ [(k : Int)] := by
  generalize e : k + 1 = b at h
  cases h with
  | nil => omega
  | @snoc _ c p ks h1 h2 =>
    obtain rfl : k = p := by omega
    exact ⟨_, rfl⟩
theorem Seg.kid {ns : List Nd} {a b : Nat} {ks : List Int} (h : Seg ns a b ks) : ∀ x ∈ ks, ∃ p : Nat, x = (p : Int) ∧ a ≤ p ∧ p < b := by
  induction h with
  | nil a => intro x hx; simp at hx
  | @snoc a c p ks h1 h2 i1 i2 =>
    intro x hx
    have := h1.le
    have := h2.le
    rcases List.mem_append.1 hx with h | h
    · obtain ⟨q, e, h3, h4⟩ := i1 x h
      exact ⟨q, e, h3, by omega⟩
    · simp at h
      exact ⟨p, h, by omega, by omega⟩
def most (ds : List Int) (ks : List Int) : Int := ks.foldl (fun d x => if d < ds.getD x.toNat 0 then ds.getD x.toNat 0 else d) 0
def depTo (ns : List Nd) : Nat → List Int
  | 0 => []
  | k + 1 => depTo ns k ++ [most (depTo ns k) (kidsAt ns k) + 1]
def dep (ns : List Nd) (k : Nat) : Int := most (depTo ns k) (kidsAt ns k) + 1
theorem depTo_length (ns : List Nd) : ∀ k, (depTo ns k).length = k
  | 0 => rfl
  | k + 1 => by simp [depTo, depTo_length ns k]
theorem depTo_get (ns : List Nd) : ∀ k j, j < k → (depTo ns k).getD j 0 = dep ns j
  | 0, j, h => by omega
  | k + 1, j, h => by
    by_cases e : j = k
    · subst e
      simp [depTo, dep, List.getD_eq_getElem?_getD, depTo_length]
    · have := depTo_get ns k j (by omega)
      rw [List.getD_eq_getElem?_getD] at this
      rw [depTo, List.getD_eq_getElem?_getD, List.getElem?_append_left (by rw [depTo_length]; omega)]
      exact this
theorem foldmost {ds : List Int} : ∀ (ks : List Int) (d : Int), d ≤ ks.foldl (fun d x => if d < ds.getD x.toNat 0 then ds.getD x.toNat 0 else d) d ∧ ∀ x ∈ ks, ds.getD x.toNat 0 ≤ ks.foldl (fun d x => if d < ds.getD x.toNat 0 then ds.getD x.toNat 0 else d) d
  | [], d => ⟨Int.le_refl _, fun x hx => by simp at hx⟩
  | y :: ks, d => by
    simp only [List.foldl_cons]
    obtain ⟨h1, h2⟩ := foldmost (ds := ds) ks (if d < ds.getD y.toNat 0 then ds.getD y.toNat 0 else d)
    have e1 : d ≤ (if d < ds.getD y.toNat 0 then ds.getD y.toNat 0 else d) := by split <;> omega
    have e2 : ds.getD y.toNat 0 ≤ (if d < ds.getD y.toNat 0 then ds.getD y.toNat 0 else d) := by split <;> omega
    refine ⟨Int.le_trans e1 h1, fun x hx => ?_⟩
    rcases List.mem_cons.1 hx with rfl | h
    · exact Int.le_trans e2 h1
    · exact h2 x h
theorem dep_kid (ns : List Nd) (p q : Nat) (h : (q : Int) ∈ kidsAt ns p) (hq : q < p) : dep ns q < dep ns p := by
  have := (foldmost (ds := depTo ns p) (kidsAt ns p) 0).2 _ h
  rw [show ((q : Int)).toNat = q by simp, depTo_get ns p q hq] at this
  rw [show dep ns p = most (depTo ns p) (kidsAt ns p) + 1 from rfl]
  unfold most
  omega
theorem Seg.deep {ns : List Nd} {a b : Nat} {ks : List Int} (h : Seg ns a b ks) : ∀ j, a ≤ j → j < b → ∃ r : Nat, (r : Int) ∈ ks ∧ dep ns j ≤ dep ns r := by
  induction h with
  | nil a => intro j h1 h2; omega
  | @snoc a c p ks h1 h2 i1 i2 =>
    intro j e1 e2
    by_cases hc : j < c
    · obtain ⟨r, hr, hd⟩ := i1 j e1 hc
      exact ⟨r, by simp [hr], hd⟩
    · refine ⟨p, by simp, ?_⟩
      by_cases hp : j = p
      · subst hp; exact Int.le_refl _
      · obtain ⟨r, hr, hd⟩ := i2 j (by omega) (by omega)
        obtain ⟨q, e, h3, h4⟩ := h2.kid _ hr
        have e' : r = q := by omega
        subst e'
        have := dep_kid ns p r hr h4
        omega
end Go.Proofs.YtbbjhepagkkjeaaGreatDoor
namespace Go.Proofs.YtbbjhepagkkjeaaGreatDoor
noncomputable def dB (p : Prop) : Bool := @decide p (Classical.propDecidable p)
theorem dB_true {p : Prop} (h : p) : dB p = true := by unfold dB; exact @decide_eq_true p (Classical.propDecidable p) h
theorem dB_false {p : Prop} (h : ¬ p) : dB p = false := by unfold dB; exact @decide_eq_false p (Classical.propDecidable p) h
theorem dB_iff {p : Prop} : dB p = true ↔ p := ⟨fun h => Classical.byContradiction fun hn => (by rw [dB_false hn] at h; cases h), dB_true⟩
theorem dB_congr {p q : Prop} (h : p ↔ q) : dB p = dB q := by rw [propext h]
def letter (c : Int) : Bool := (decide (65 ≤ c) && decide (c ≤ 90)) || (decide (97 ≤ c) && decide (c ≤ 122))
def digit (c : Int) : Bool := decide (48 ≤ c) && decide (c ≤ 57)
def part (c : Int) : Bool := letter c || digit c || decide (c = 95)
def byt (s : ByteArray) (i : Nat) : Int := ((s.toList.getD i 0).toNat : Int)
def kws : List (List UInt8) := [[83, 69, 76, 69, 67, 84], [68, 73, 83, 84, 73, 78, 67, 84], [70, 82, 79, 77], [87, 72, 69, 82, 69], [85, 78, 73, 79, 78], [65, 76, 76], [65, 78, 89], [65, 78, 68], [79, 82], [78, 79, 84], [69, 88, 73, 83, 84, 83], [73, 78], [73, 83], [78, 85, 76, 76], [67, 79, 85, 78, 84], [77, 73, 78], [77, 65, 88]]
def WordB (s : ByteArray) : Prop := 0 < s.size ∧ letter (byt s 0) = true ∧ ∀ i, i < s.size → part (byt s i) = true
def NameB (s : ByteArray) : Prop := WordB s ∧ s.size ≤ 64 ∧ s.toList ∉ kws
def scB (k : Int) : Bool := decide (1 ≤ k) && decide (k ≤ 4)
def quB (k : Int) : Bool := decide (k = 6) || decide (k = 7)
def cdB (k : Int) : Bool := decide (8 ≤ k) && decide (k ≤ 15)
def fives (k : Int) : Bool := decide (k = 5)
def sixes (k : Int) : Bool := decide (k = 6)
def rule (k : Int) : Int × Int × Int × Int × Bool × Bool :=
  if k = 1 then (-999999999999999999, 999999999999999999, 0, 0, false, false)
  else if k = 3 then (0, 999999999999999999, 0, 0, true, false)
  else if k = 4 then (0, 1, 1, 4, false, false)
  else if k = 5 then (0, 0, 0, 0, true, true)
  else if k = 6 then (1, 10000, 0, 1, false, false)
  else if k = 8 then (0, 0, 1, 6, false, false)
  else if k = 9 then (0, 0, 0, 1, false, false)
  else if k = 11 then (0, 0, 0, 1, false, false)
  else if k = 12 then (1, 2, 1, 6, false, false)
  else (0, 0, 0, 0, false, false)
def NameFits (s : ByteArray) (used : Bool) : Prop := if used then NameB s else s.toList = []
def Flds (n : Nd) : Prop := (1 ≤ n.K ∧ n.K ≤ 15) ∧ (n.K = 4 → (n.M = 1 ↔ n.N = 0)) ∧
  (rule n.K).1 ≤ n.N ∧ n.N ≤ (rule n.K).2.1 ∧ (rule n.K).2.2.1 ≤ n.M ∧ n.M ≤ (rule n.K).2.2.2.1 ∧ NameFits n.S (rule n.K).2.2.2.2.1 ∧ NameFits n.T (rule n.K).2.2.2.2.2
def cutI (r : List Int) : List Int := if (r.getLast?).any cdB then r.dropLast else r
def BlkI (ks : List Int) (N : Int) : Prop := N ≤ ks.length ∧ (∀ x ∈ ks.take N.toNat, scB x = true) ∧ (∀ x ∈ cutI (ks.drop N.toNat), fives x = true) ∧ 1 ≤ (cutI (ks.drop N.toNat)).length
def KidsI (K N : Int) (ks : List Int) : Prop :=
  if K = 4 ∨ K = 6 then BlkI ks N
  else if K = 7 then (∀ x ∈ ks, sixes x = true) ∧ 2 ≤ ks.length
  else if K = 8 then ks.length = 2 ∧ (∀ x ∈ ks, scB x = true)
  else if K = 9 then ks.length = 1 ∧ scB (ks.getD 0 0) = true
  else if K = 10 then ks.length = 1 ∧ quB (ks.getD 0 0) = true
  else if K = 11 ∨ K = 12 then ks.length = 2 ∧ scB (ks.getD 0 0) = true ∧ quB (ks.getD 1 0) = true
  else if K = 13 then ks.length = 1 ∧ cdB (ks.getD 0 0) = true
  else if K = 14 ∨ K = 15 then (∀ x ∈ ks, cdB x = true) ∧ 2 ≤ ks.length
  else ks.length = 0
def FitI (n : Nd) (ks : List Int) : Prop := Flds n ∧ KidsI n.K n.N ks
def ltr (k : Int) : UInt8 := if scB k then 115 else if k = 5 then 102 else if quB k then 113 else 99
def only (l : List UInt8) (c : UInt8) (least : Nat) : Prop := (∀ x ∈ l, x = c) ∧ least ≤ l.length
def cutS (r : List UInt8) : List UInt8 := if r.getLast? = some 99 then r.dropLast else r
def BlkS (l : List UInt8) (n : Int) : Prop := 0 ≤ n ∧ n ≤ l.length ∧ only (l.take n.toNat) 115 0 ∧ only (cutS (l.drop n.toNat)) 102 1
def shortB (n : Int) : Bool := decide (-1000000000000000000 < n) && decide (n < 1000000000000000000)
def FitS (n : Nd) (ks : List Int) : Prop :=
  let l := ks.map ltr
  ((n.S.toList ≠ []) ↔ (n.K = 3 ∨ n.K = 5)) ∧ ((n.T.toList ≠ []) ↔ n.K = 5) ∧
  (n.K = 1 ∨ n.K = 3 ∨ n.K = 4 ∨ n.K = 6 ∨ n.K = 12 ∨ n.N = 0) ∧ (n.K = 4 ∨ n.K = 6 ∨ n.K = 8 ∨ n.K = 9 ∨ n.K = 11 ∨ n.K = 12 ∨ n.M = 0) ∧
  (if n.K = 1 then l = [] ∧ shortB n.N = true
   else if n.K = 2 then l = []
   else if n.K = 3 then l = [] ∧ NameB n.S ∧ 0 ≤ n.N ∧ shortB n.N = true
   else if n.K = 5 then l = [] ∧ NameB n.S ∧ NameB n.T
   else if n.K = 4 then 1 ≤ n.M ∧ n.M ≤ 4 ∧ (n.N = 1 ↔ 1 < n.M) ∧ (n.N = 0 ↔ n.M = 1) ∧ BlkS l n.N
   else if n.K = 6 then (n.M = 0 ∨ n.M = 1) ∧ 1 ≤ n.N ∧ BlkS l n.N
   else if n.K = 7 then (∀ x ∈ ks, x = 6) ∧ 2 ≤ ks.length
   else if n.K = 8 then (1 ≤ n.M ∧ n.M ≤ 6) ∧ l = [115, 115]
   else if n.K = 9 then (n.M = 0 ∨ n.M = 1) ∧ l = [115]
   else if n.K = 10 then l = [113]
   else if n.K = 11 then (n.M = 0 ∨ n.M = 1) ∧ l = [115, 113]
   else if n.K = 12 then (1 ≤ n.M ∧ n.M ≤ 6) ∧ (n.N = 1 ∨ n.N = 2) ∧ l = [115, 113]
   else if n.K = 13 then l = [99]
   else (n.K = 14 ∨ n.K = 15) ∧ only l 99 2)
theorem size_toList (s : ByteArray) : s.toList.length = s.size := by
  cases s
  rw [Go.ByteArray.toList_eq]
  simp [ByteArray.size]
theorem NameB.ne {s : ByteArray} (h : NameB s) : s.toList ≠ [] := by
  intro e
  have h1 := h.1.1
  rw [← size_toList, e] at h1
  simp at h1
theorem Seg.len {ns : List Nd} {a b : Nat} {ks : List Int} (h : Seg ns a b ks) : ks.length + a ≤ b := by
  induction h with
  | nil a => simp
  | snoc h1 h2 i1 i2 => have := h2.le; simp; omega
def kindsOf (ns : List Nd) (ks : List Int) : List Int := ks.map fun x => kindAt ns x.toNat
structure IV (ns : List Nd) : Prop where
  lo : 1 ≤ ns.length
  hi : ns.length ≤ 10000
  seg : Seg ns 0 ns.length [((ns.length - 1 : Nat) : Int)]
  fit : ∀ (i : Nat) (n : Nd), ns[i]? = some n → FitI n (kindsOf ns n.Kids)
  deep : ∀ i, i < ns.length → dep ns i ≤ 200
  top : quB (kindAt ns (ns.length - 1)) = true
theorem Seg.each {ns : List Nd} {a b : Nat} {ks : List Int} (h : Seg ns a b ks) : ∀ j, a ≤ j → j < b → ∃ c, Seg ns c j (kidsAt ns j) := by
  induction h with
  | nil a => intro j h1 h2; omega
  | @snoc a c p ks h1 h2 i1 i2 =>
    intro j e1 e2
    by_cases hc : j < c
    · exact i1 j e1 hc
    · by_cases hp : j = p
      · subst hp; exact ⟨c, h2⟩
      · exact i2 j (by omega) (by omega)
theorem kidsAt_some {ns : List Nd} {i : Nat} {n : Nd} (h : ns[i]? = some n) : kidsAt ns i = n.Kids := by simp [kidsAt, h]
theorem FitS.range {n : Nd} {ks : List Int} (h : FitS n ks) : 1 ≤ n.K ∧ n.K ≤ 15 := by
  by_cases hK : 1 ≤ n.K ∧ n.K ≤ 15
  · exact hK
  · have := h.2.2.2.2
    rw [if_neg (by omega), if_neg (by omega), if_neg (by omega), if_neg (by omega), if_neg (by omega), if_neg (by omega), if_neg (by omega), if_neg (by omega), if_neg (by omega), if_neg (by omega), if_neg (by omega), if_neg (by omega), if_neg (by omega)] at this
    omega
end Go.Proofs.YtbbjhepagkkjeaaGreatDoor
