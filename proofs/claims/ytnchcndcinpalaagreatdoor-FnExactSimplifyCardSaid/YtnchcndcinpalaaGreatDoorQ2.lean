import Derived.Test.YtnchcndcinpalaaGreatDoorQ1
import Derived.Laws.Strings
import Derived.Test.YtnchcndcinpalaaGreatDoorQ0
/-
  THE FORMS OF NODES, of no program.
-/
namespace Go.Proofs.YtnchcndcinpalaaGreatDoor

/-- a proposition as a bool -/
noncomputable def dB (p : Prop) : Bool := @decide p (Classical.propDecidable p)
theorem dB_true {p : Prop} (h : p) : dB p = true := by unfold dB; exact @decide_eq_true p (Classical.propDecidable p) h
theorem dB_false {p : Prop} (h : ¬ p) : dB p = false := by unfold dB; exact @decide_eq_false p (Classical.propDecidable p) h
theorem dB_iff {p : Prop} : dB p = true ↔ p := ⟨fun h => Classical.byContradiction fun hn => (by rw [dB_false hn] at h; cases h), dB_true⟩
theorem dB_congr {p q : Prop} (h : p ↔ q) : dB p = dB q := by rw [propext h]

def letter (c : Int) : Bool := (decide (65 ≤ c) && decide (c ≤ 90)) || (decide (97 ≤ c) && decide (c ≤ 122))
def digit (c : Int) : Bool := decide (48 ≤ c) && decide (c ≤ 57)
def part (c : Int) : Bool := letter c || digit c || decide (c = 95)
def byt (s : ByteArray) (i : Nat) : Int := ((s.toList.getD i 0).toNat : Int)
def kws : List (List UInt8) := [[83, 69, 76, 69, 67, 84], [68, 73, 83, 84, 73, 78, 67, 84], [70, 82, 79, 77], [87, 72, 69, 82, 69], [85, 78, 73, 79, 78], [65, 76, 76], [65, 78, 89], [65, 78, 68], [79, 82], [78, 79, 84], [69, 88, 73, 83, 84, 83], [73, 78], [73, 83], [78, 85, 76, 76], [67, 79, 85, 78, 84], [77, 73, 78], [77, 65, 88]]
def WordB (s : ByteArray) : Prop := 0 < s.size ∧ letter (byt s 0) = true ∧ ∀ i, i < s.size → part (byt s i) = true
def NameB (s : ByteArray) : Prop := WordB s ∧ s.size ≤ 64 ∧ s.toList ∉ kws

def scB (k : Int) : Bool := decide (1 ≤ k) && decide (k ≤ 4)
def quB (k : Int) : Bool := decide (k = 6) || decide (k = 7)
def cdB (k : Int) : Bool := decide (8 ≤ k) && decide (k ≤ 15)
def fives (k : Int) : Bool := decide (k = 5)
def sixes (k : Int) : Bool := decide (k = 6)

/-- the rule of a kind's fields: least and most N, least and most M, S used, T used -/
def rule (k : Int) : Int × Int × Int × Int × Bool × Bool :=
  if k = 1 then (-999999999999999999, 999999999999999999, 0, 0, false, false)
  else if k = 3 then (0, 999999999999999999, 0, 0, true, false)
  else if k = 4 then (0, 1, 1, 4, false, false)
  else if k = 5 then (0, 0, 0, 0, true, true)
  else if k = 6 then (1, 10000, 0, 1, false, false)
  else if k = 8 then (0, 0, 1, 6, false, false)
  else if k = 9 then (0, 0, 0, 1, false, false)
  else if k = 11 then (0, 0, 0, 1, false, false)
  else if k = 12 then (1, 2, 1, 6, false, false)
  else (0, 0, 0, 0, false, false)
def NameFits (s : ByteArray) (used : Bool) : Prop := if used then NameB s else s.toList = []
def Flds (n : Nd) : Prop := (1 ≤ n.K ∧ n.K ≤ 15) ∧ (n.K = 4 → (n.M = 1 ↔ n.N = 0)) ∧
  (rule n.K).1 ≤ n.N ∧ n.N ≤ (rule n.K).2.1 ∧ (rule n.K).2.2.1 ≤ n.M ∧ n.M ≤ (rule n.K).2.2.2.1 ∧ NameFits n.S (rule n.K).2.2.2.2.1 ∧ NameFits n.T (rule n.K).2.2.2.2.2

def cutI (r : List Int) : List Int := if (r.getLast?).any cdB then r.dropLast else r
def BlkI (ks : List Int) (N : Int) : Prop := N ≤ ks.length ∧ (∀ x ∈ ks.take N.toNat, scB x = true) ∧ (∀ x ∈ cutI (ks.drop N.toNat), fives x = true) ∧ 1 ≤ (cutI (ks.drop N.toNat)).length
def KidsI (K N : Int) (ks : List Int) : Prop :=
  if K = 4 ∨ K = 6 then BlkI ks N
  else if K = 7 then (∀ x ∈ ks, sixes x = true) ∧ 2 ≤ ks.length
  else if K = 8 then ks.length = 2 ∧ (∀ x ∈ ks, scB x = true)
  else if K = 9 then ks.length = 1 ∧ scB (ks.getD 0 0) = true
  else if K = 10 then ks.length = 1 ∧ quB (ks.getD 0 0) = true
  else if K = 11 ∨ K = 12 then ks.length = 2 ∧ scB (ks.getD 0 0) = true ∧ quB (ks.getD 1 0) = true
  else if K = 13 then ks.length = 1 ∧ cdB (ks.getD 0 0) = true
  else if K = 14 ∨ K = 15 then (∀ x ∈ ks, cdB x = true) ∧ 2 ≤ ks.length
  else ks.length = 0
def FitI (n : Nd) (ks : List Int) : Prop := Flds n ∧ KidsI n.K n.N ks

/-- the letters of kinds -/
def ltr (k : Int) : UInt8 := if scB k then 115 else if k = 5 then 102 else if quB k then 113 else 99
def only (l : List UInt8) (c : UInt8) (least : Nat) : Prop := (∀ x ∈ l, x = c) ∧ least ≤ l.length
def cutS (r : List UInt8) : List UInt8 := if r.getLast? = some 99 then r.dropLast else r
def BlkS (l : List UInt8) (n : Int) : Prop := 0 ≤ n ∧ n ≤ l.length ∧ only (l.take n.toNat) 115 0 ∧ only (cutS (l.drop n.toNat)) 102 1
def shortB (n : Int) : Bool := decide (-1000000000000000000 < n) && decide (n < 1000000000000000000)
/-- as the specification says it; kinds: the kinds of the kids -/
def FitS (n : Nd) (ks : List Int) : Prop :=
  let l := ks.map ltr
  ((n.S.toList ≠ []) ↔ (n.K = 3 ∨ n.K = 5)) ∧ ((n.T.toList ≠ []) ↔ n.K = 5) ∧
  (n.K = 1 ∨ n.K = 3 ∨ n.K = 4 ∨ n.K = 6 ∨ n.K = 12 ∨ n.N = 0) ∧ (n.K = 4 ∨ n.K = 6 ∨ n.K = 8 ∨ n.K = 9 ∨ n.K = 11 ∨ n.K = 12 ∨ n.M = 0) ∧
  (if n.K = 1 then l = [] ∧ shortB n.N = true
   else if n.K = 2 then l = []
   else if n.K = 3 then l = [] ∧ NameB n.S ∧ 0 ≤ n.N ∧ shortB n.N = true
   else if n.K = 5 then l = [] ∧ NameB n.S ∧ NameB n.T
   else if n.K = 4 then 1 ≤ n.M ∧ n.M ≤ 4 ∧ (n.N = 1 ↔ 1 < n.M) ∧ (n.N = 0 ↔ n.M = 1) ∧ BlkS l n.N
   else if n.K = 6 then (n.M = 0 ∨ n.M = 1) ∧ 1 ≤ n.N ∧ BlkS l n.N
   else if n.K = 7 then (∀ x ∈ ks, x = 6) ∧ 2 ≤ ks.length
   else if n.K = 8 then (1 ≤ n.M ∧ n.M ≤ 6) ∧ l = [115, 115]
   else if n.K = 9 then (n.M = 0 ∨ n.M = 1) ∧ l = [115]
   else if n.K = 10 then l = [113]
   else if n.K = 11 then (n.M = 0 ∨ n.M = 1) ∧ l = [115, 113]
   else if n.K = 12 then (1 ≤ n.M ∧ n.M ≤ 6) ∧ (n.N = 1 ∨ n.N = 2) ∧ l = [115, 113]
   else if n.K = 13 then l = [99]
   else (n.K = 14 ∨ n.K = 15) ∧ only l 99 2)

theorem ltr_s {k : Int} (_ : 1 ≤ k ∧ k ≤ 15) : ltr k = 115 ↔ scB k = true := by
  unfold ltr
  cases h : scB k
  · simp; split <;> (try split) <;> decide
  · simp
theorem ltr_f {k : Int} (_ : 1 ≤ k ∧ k ≤ 15) : ltr k = 102 ↔ fives k = true := by
  unfold ltr fives
  cases h : scB k
  · by_cases e : k = 5
    · simp [e]
    · simp [e]; split <;> decide
  · simp [scB] at h
    simp; omega
theorem ltr_q {k : Int} (_ : 1 ≤ k ∧ k ≤ 15) : ltr k = 113 ↔ quB k = true := by
  unfold ltr
  cases h : scB k
  · by_cases e : k = 5
    · subst e; simp [quB]
    · simp [e]
  · simp [scB] at h
    simp [quB]; omega
theorem ltr_c {k : Int} (h0 : 1 ≤ k ∧ k ≤ 15) : ltr k = 99 ↔ cdB k = true := by
  unfold ltr
  cases h : scB k
  · by_cases e : k = 5
    · subst e; simp [cdB]
    · cases q : quB k
      · simp [scB] at h; simp [quB] at q; simp [e, cdB]; omega
      · simp [quB] at q; simp [e, cdB]; omega
  · simp [scB] at h
    simp [cdB]; omega

theorem size_toList (s : ByteArray) : s.toList.length = s.size := by
  cases s
  rw [Go.ByteArray.toList_eq]
  simp [ByteArray.size]
theorem NameB.ne {s : ByteArray} (h : NameB s) : s.toList ≠ [] := by
  intro e
  have h1 := h.1.1
  rw [← size_toList, e] at h1
  simp at h1
theorem all_map {ks : List Int} {f : Int → Bool} {c : UInt8} (h : ∀ x ∈ ks, (ltr x = c ↔ f x = true)) : (∀ x ∈ ks.map ltr, x = c) ↔ ∀ x ∈ ks, f x = true := by
  constructor
  · intro h1 x hx
    exact (h x hx).1 (h1 _ (List.mem_map_of_mem hx))
  · intro h1 y hy
    obtain ⟨x, hx, rfl⟩ := List.mem_map.1 hy
    exact (h x hx).2 (h1 x hx)
theorem cut_map {r : List Int} (h : ∀ x ∈ r, 1 ≤ x ∧ x ≤ 15) : cutS (r.map ltr) = (cutI r).map ltr := by
  unfold cutS cutI
  rw [List.getLast?_map]
  cases e : r.getLast? with
  | none => simp
  | some x =>
    have hx := ltr_c (h x (List.mem_of_getLast? e))
    simp only [Option.map_some, Option.some.injEq, Option.any_some]
    by_cases hc : cdB x = true
    · rw [if_pos (hx.2 hc), if_pos hc, List.map_dropLast]
    · rw [if_neg (fun he => hc (hx.1 he)), if_neg hc]
theorem cutI_mem {r : List Int} {x : Int} (h : x ∈ cutI r) : x ∈ r := by
  unfold cutI at h
  split at h
  · exact (List.dropLast_sublist _).subset h
  · exact h
theorem blk_iff {ks : List Int} {N : Int} (hN : 0 ≤ N) (h : ∀ x ∈ ks, 1 ≤ x ∧ x ≤ 15) : BlkI ks N ↔ BlkS (ks.map ltr) N := by
  unfold BlkI BlkS only
  rw [← List.map_take, ← List.map_drop, cut_map (fun x hx => h x (List.mem_of_mem_drop hx)),
    all_map (f := scB) (fun x hx => ltr_s (h x (List.mem_of_mem_take hx))), all_map (f := fives) (fun x hx => ltr_f (h x (List.mem_of_mem_drop (cutI_mem hx))))]
  simp [hN]
theorem map1 {ks : List Int} {f : Int → Bool} {c : UInt8} (h : ∀ x ∈ ks, (ltr x = c ↔ f x = true)) : ks.map ltr = [c] ↔ ks.length = 1 ∧ f (ks.getD 0 0) = true := by
  match ks, h with
  | [], _ => simp
  | [a], h => simp [h a (by simp)]
  | a :: b :: r, _ => simp
theorem map2 {ks : List Int} {f g : Int → Bool} {c d : UInt8} (h : ∀ x ∈ ks, (ltr x = c ↔ f x = true)) (h' : ∀ x ∈ ks, (ltr x = d ↔ g x = true)) : ks.map ltr = [c, d] ↔ ks.length = 2 ∧ f (ks.getD 0 0) = true ∧ g (ks.getD 1 0) = true := by
  match ks, h, h' with
  | [], _, _ => simp
  | [a], _, _ => simp
  | [a, b], h, h' => simp [h a (by simp), h' b (by simp)]
  | a :: b :: _ :: r, _, _ => simp
theorem two_all {ks : List Int} {f : Int → Bool} : (ks.length = 2 ∧ f (ks.getD 0 0) = true ∧ f (ks.getD 1 0) = true) ↔ (ks.length = 2 ∧ ∀ x ∈ ks, f x = true) := by
  match ks with
  | [] => simp
  | [a] => simp
  | [a, b] => simp
  | a :: b :: _ :: r => simp

theorem fit_iff (n : Nd) (ks : List Int) (h : ∀ x ∈ ks, 1 ≤ x ∧ x ≤ 15) (hl : ks.length ≤ 10000) : FitI n ks ↔ FitS n ks := by
  obtain ⟨K, N, M, S, T, Kids⟩ := n
  have m1s := map1 (ks := ks) (f := scB) (c := 115) (fun x hx => ltr_s (h x hx))
  have m1q := map1 (ks := ks) (f := quB) (c := 113) (fun x hx => ltr_q (h x hx))
  have m1c := map1 (ks := ks) (f := cdB) (c := 99) (fun x hx => ltr_c (h x hx))
  have m2s := (map2 (ks := ks) (f := scB) (g := scB) (c := 115) (d := 115) (fun x hx => ltr_s (h x hx)) (fun x hx => ltr_s (h x hx))).trans two_all
  have m2q := map2 (ks := ks) (f := scB) (g := quB) (c := 115) (d := 113) (fun x hx => ltr_s (h x hx)) (fun x hx => ltr_q (h x hx))
  have ma := all_map (ks := ks) (f := cdB) (c := 99) (fun x hx => ltr_c (h x hx))
  have ml : (ks.map ltr).length = ks.length := by simp
  have m0 : ks.map ltr = [] ↔ ks.length = 0 := by simp
  have bI := fun hN => blk_iff (ks := ks) (N := N) hN h
  have hNS := NameB.ne (s := S)
  have hNT := NameB.ne (s := T)
  have bl : BlkS (ks.map ltr) N → N ≤ ks.length := fun hb => by have := hb.2.1; rw [ml] at this; exact this
  have hl' : (ks.length : Int) ≤ 10000 := by omega
  have bl' : BlkS (ks.map ltr) N → N ≤ 10000 := fun hb => Int.le_trans (bl hb) hl'
  clear bl hl'
  have s6 : (∀ x ∈ ks, sixes x = true) ↔ ∀ x ∈ ks, x = 6 := by simp [sixes]
  unfold FitI FitS Flds
  simp only [m1s, m1q, m1c, m2s, m2q, m0, only, ma, ml]
  generalize BlkS (ks.map ltr) N = BS at *
  by_cases hK : 1 ≤ K ∧ K ≤ 15
  · have hc : K = 1 ∨ K = 2 ∨ K = 3 ∨ K = 4 ∨ K = 5 ∨ K = 6 ∨ K = 7 ∨ K = 8 ∨ K = 9 ∨ K = 10 ∨ K = 11 ∨ K = 12 ∨ K = 13 ∨ K = 14 ∨ K = 15 := by omega
    rcases hc with rfl | rfl | rfl | rfl | rfl | rfl | rfl | rfl | rfl | rfl | rfl | rfl | rfl | rfl | rfl
    all_goals simp [rule, KidsI, NameFits, shortB, s6]
    all_goals clear m1s m1q m1c m2s m2q ma ml m0 s6 h
    all_goals grind
  · constructor
    · intro hh; exact absurd hh.1.1 hK
    · intro hh
      have := hh.2.2.2.2
      rw [if_neg (by omega), if_neg (by omega), if_neg (by omega), if_neg (by omega), if_neg (by omega), if_neg (by omega), if_neg (by omega), if_neg (by omega), if_neg (by omega), if_neg (by omega), if_neg (by omega), if_neg (by omega), if_neg (by omega)] at this
      omega

theorem Seg.len {ns : List Nd} {a b : Nat} {ks : List Int} (h : Seg ns a b ks) : ks.length + a ≤ b := by
  induction h with
  | nil a => simp
  | snoc h1 h2 i1 i2 => have := h2.le; simp; omega

def kindsOf (ns : List Nd) (ks : List Int) : List Int := ks.map fun x => kindAt ns x.toNat
/-- a tree as the program judges it -/
structure IV (ns : List Nd) : Prop where
  lo : 1 ≤ ns.length
  hi : ns.length ≤ 10000
  seg : Seg ns 0 ns.length [((ns.length - 1 : Nat) : Int)]
  fit : ∀ (i : Nat) (n : Nd), ns[i]? = some n → FitI n (kindsOf ns n.Kids)
  deep : ∀ i, i < ns.length → dep ns i ≤ 200
  top : quB (kindAt ns (ns.length - 1)) = true
/-- a tree as the specification judges it -/
structure SV (ns : List Nd) : Prop where
  lo : 1 ≤ ns.length
  hi : ns.length ≤ 10000
  seg : Seg ns 0 ns.length [((ns.length - 1 : Nat) : Int)]
  fit : ∀ (i : Nat) (n : Nd), ns[i]? = some n → FitS n (kindsOf ns n.Kids)
  top : quB (kindAt ns (ns.length - 1)) = true
  deep : dep ns (ns.length - 1) ≤ 200

/-- in a whole tree every node's kids are a row of stretches in front of it -/
theorem Seg.each {ns : List Nd} {a b : Nat} {ks : List Int} (h : Seg ns a b ks) : ∀ j, a ≤ j → j < b → ∃ c, Seg ns c j (kidsAt ns j) := by
  induction h with
  | nil a => intro j h1 h2; omega
  | @snoc a c p ks h1 h2 i1 i2 =>
    intro j e1 e2
    by_cases hc : j < c
    · exact i1 j e1 hc
    · by_cases hp : j = p
      · subst hp; exact ⟨c, h2⟩
      · exact i2 j (by omega) (by omega)
theorem kidsAt_some {ns : List Nd} {i : Nat} {n : Nd} (h : ns[i]? = some n) : kidsAt ns i = n.Kids := by simp [kidsAt, h]
theorem kindAt_some {ns : List Nd} {i : Nat} {n : Nd} (h : ns[i]? = some n) : kindAt ns i = n.K := by simp [kindAt, h]
theorem FitS.range {n : Nd} {ks : List Int} (h : FitS n ks) : 1 ≤ n.K ∧ n.K ≤ 15 := by
  by_cases hK : 1 ≤ n.K ∧ n.K ≤ 15
  · exact hK
  · have := h.2.2.2.2
    rw [if_neg (by omega), if_neg (by omega), if_neg (by omega), if_neg (by omega), if_neg (by omega), if_neg (by omega), if_neg (by omega), if_neg (by omega), if_neg (by omega), if_neg (by omega), if_neg (by omega), if_neg (by omega), if_neg (by omega)] at this
    omega
theorem kinds_ok {ns : List Nd} (hi : ns.length ≤ 10000) {i : Nat} {n : Nd} (h : ns[i]? = some n) {p : Nat} {ks : List Int} (hs : Seg ns 0 p ks) (hp : p = ns.length) (hr : ∀ (j : Nat) (m : Nd), ns[j]? = some m → 1 ≤ m.K ∧ m.K ≤ 15) :
    (∀ x ∈ kindsOf ns n.Kids, 1 ≤ x ∧ x ≤ 15) ∧ (kindsOf ns n.Kids).length ≤ 10000 := by
  have hin : i < ns.length := (List.getElem?_eq_some_iff.1 h).1
  obtain ⟨c, hc⟩ := hs.each i (by omega) (by omega)
  rw [kidsAt_some h] at hc
  refine ⟨fun x hx => ?_, ?_⟩
  · obtain ⟨y, hy, rfl⟩ := List.mem_map.1 hx
    obtain ⟨q, rfl, _, hq⟩ := hc.kid y hy
    have hq' : q < ns.length := by omega
    have := hr q ns[q] (by simp [hq'])
    rw [show ((q : Int)).toNat = q by simp, kindAt_some (List.getElem?_eq_getElem hq')]
    exact this
  · have := hc.len
    simp [kindsOf]
    omega
theorem iv_iff_sv (ns : List Nd) : IV ns ↔ SV ns := by
  constructor
  · intro ⟨lo, hi, seg, fit, deep, top⟩
    refine ⟨lo, hi, seg, fun i n h => ?_, top, deep _ (by omega)⟩
    obtain ⟨h1, h2⟩ := kinds_ok hi h seg rfl (fun j m hm => (fit j m hm).1.1)
    exact (fit_iff n _ h1 h2).1 (fit i n h)
  · intro ⟨lo, hi, seg, fit, top, deep⟩
    refine ⟨lo, hi, seg, fun i n h => ?_, fun i h => ?_, top⟩
    · obtain ⟨h1, h2⟩ := kinds_ok hi h seg rfl (fun j m hm => (fit j m hm).range)
      exact (fit_iff n _ h1 h2).2 (fit i n h)
    · have := deep_all (n := ns.length - 1) (by rw [show ns.length - 1 + 1 = ns.length by omega]; exact seg) i (by omega)
      omega
end Go.Proofs.YtnchcndcinpalaaGreatDoor
/-
  NODES IN MEMORY, of no program. A node has six cells: K, N, M, S, T and the slice of its kids.
-/
namespace Go.Proofs.YtnchcndcinpalaaGreatDoor
open Go Go.RowKit

def IntsAt (w : World) (g off : Nat) (xs : List Int) : Prop := ∀ i x, xs[i]? = some x → w.cell? ⟨g, off + i, none⟩ = some (.int .i64 x)
/-- an argument: a slice of ints -/
def IsInts (w : World) (v : Value) (xs : List Int) : Prop :=
  (xs = [] ∧ ∃ a cap, v = .slice a 0 cap) ∨ ∃ g off cap, v = .slice (some ⟨g, off, none⟩) xs.length cap ∧ xs.length ≤ cap ∧ g < w.heap.size ∧ IntsAt w g off xs
theorem IntsAt.of {w w1 : World} {g off : Nat} {xs : List Int} (h : IntsAt w g off xs) (hg : g < w.heap.size) (hb : Below w.heap.size w w1) : IntsAt w1 g off xs := fun i x hx =>
  (hb.cell (p := ⟨g, off + i, none⟩) hg).trans (h i x hx)
theorem IsInts.of {w w1 : World} {v : Value} {xs : List Int} (h : IsInts w v xs) (hb : Below w.heap.size w w1) : IsInts w1 v xs := by
  rcases h with h | ⟨g, off, cap, h1, h2, h3, h4⟩
  · exact Or.inl h
  · exact Or.inr ⟨g, off, cap, h1, h2, Nat.lt_of_lt_of_le h3 hb.size, h4.of h3 hb⟩
theorem IntsAt.at {w : World} {g off : Nat} {xs : List Int} (h : IntsAt w g off xs) (i : Nat) (hi : i < xs.length) : w.cell? ⟨g, off + i, none⟩ = some (.int .i64 xs[i]) := h i xs[i] (by simp [hi])

/-- a row of ints in the making -/
structure OwnInts (w : World) (g n : Nat) (xs : List Int) : Prop where
  size : g < w.heap.size
  frz : ∀ o, w.frozen? ⟨g, o, none⟩ = false
  all : ∀ o, o < n → ∃ v, w.cell? ⟨g, o, none⟩ = some v
  held : IntsAt w g 0 xs
theorem OwnInts.of {w w1 : World} {g n : Nat} {xs : List Int} (h : OwnInts w g n xs) (hb : Below w.heap.size w w1) : OwnInts w1 g n xs :=
  ⟨Nat.lt_of_lt_of_le h.size hb.size, fun o => (hb.frozen (p := ⟨g, o, none⟩) h.size).trans (h.frz o), fun o ho => by
    obtain ⟨v, hv⟩ := h.all o ho
    exact ⟨v, (hb.cell (p := ⟨g, o, none⟩) h.size).trans hv⟩, h.held.of h.size hb⟩
theorem frozen_setCellN (w : World) (p a : Addr) (v : Value) : (w.setCell p v).frozen? a = w.frozen? a := by simp [go_sem]
theorem setCell_thereN {w : World} {g o o' : Nat} {v u : Value} (h : w.cell? ⟨g, o, none⟩ = some u) : ∃ z, (w.setCell ⟨g, o', none⟩ v).cell? ⟨g, o, none⟩ = some z := by
  by_cases e : o' = o
  · subst e; exact ⟨v, World.cell?_setCell_same _ _ _ h⟩
  · exact ⟨u, by rw [World.cell?_setCell_other _ _ _ _ (by intro he; injection he; contradiction)]; exact h⟩
theorem setCell_otherN {w : World} {g o o' : Nat} {v : Value} (h : o' ≠ o) : (w.setCell ⟨g, o', none⟩ v).cell? ⟨g, o, none⟩ = w.cell? ⟨g, o, none⟩ :=
  World.cell?_setCell_other _ _ _ _ (by intro he; injection he; contradiction)
theorem setCell_farN {w : World} {g o G O : Nat} {v : Value} (h : G ≠ g) : (w.setCell ⟨G, O, none⟩ v).cell? ⟨g, o, none⟩ = w.cell? ⟨g, o, none⟩ :=
  World.cell?_setCell_other _ _ _ _ (by intro he; injection he; contradiction)
theorem take_snocN {α : Type} (xs : List α) (k : Nat) (h : k < xs.length) : xs.take (k + 1) = xs.take k ++ [xs[k]] := by
  rw [List.take_succ_eq_append_getElem h]
theorem OwnInts.put {w : World} {g n k : Nat} {xs : List Int} (h : OwnInts w g n (xs.take k)) (hk : k < xs.length) (hn : k < n) : OwnInts (w.setCell ⟨g, k, none⟩ (.int .i64 xs[k])) g n (xs.take (k + 1)) := by
  refine ⟨by simpa using h.size, fun o => by rw [frozen_setCellN]; exact h.frz o, fun o ho => ?_, fun i x hx => ?_⟩
  · obtain ⟨v, hv⟩ := h.all o ho
    exact setCell_thereN hv
  · simp only [Nat.zero_add]
    rw [take_snocN xs k hk] at hx
    have hl : (xs.take k).length = k := by simp; omega
    by_cases hi : i < k
    · rw [List.getElem?_append_left (by omega)] at hx
      rw [setCell_otherN (by omega)]
      have := h.held i x hx
      simpa using this
    · obtain rfl : i = k := by
        have := (List.getElem?_eq_some_iff.1 hx).1
        simp at this; omega
      rw [List.getElem?_append_right (by omega)] at hx
      simp [hl] at hx
      subst hx
      obtain ⟨v0, h0⟩ := h.all i hn
      exact World.cell?_setCell_same _ _ _ h0
theorem OwnInts.made (w : World) (n : Nat) (C : Array Value) (t : TypeId) (hC : C.size = n) : OwnInts (w.alloc (.cells C t)) w.heap.size n [] :=
  ⟨by simp, fun o => by simp [go_sem], fun o ho => ⟨C[o]'(by omega), by rw [World.cell?_alloc_at C t _ o rfl]; simp⟩, fun i x hx => by simp at hx⟩
theorem OwnInts.far {w : World} {g n : Nat} {xs : List Int} (h : OwnInts w g n xs) {G O : Nat} (hne : G ≠ g) (v : Value) : OwnInts (w.setCell ⟨G, O, none⟩ v) g n xs :=
  ⟨by simpa using h.size, fun o => by rw [frozen_setCellN]; exact h.frz o, fun o ho => by rw [setCell_farN hne]; exact h.all o ho, fun i x hx => by rw [setCell_farN hne]; exact h.held i x hx⟩

/-- the five plain cells of a node -/
structure Cells5 (w : World) (g o : Nat) (n : Nd) : Prop where
  c0 : w.cell? ⟨g, o, none⟩ = some (.int .i64 n.K)
  c1 : w.cell? ⟨g, o + 1, none⟩ = some (.int .i64 n.N)
  c2 : w.cell? ⟨g, o + 2, none⟩ = some (.int .i64 n.M)
  c3 : w.cell? ⟨g, o + 3, none⟩ = some (.string n.S)
  c4 : w.cell? ⟨g, o + 4, none⟩ = some (.string n.T)
theorem Cells5.of {w w1 : World} {g o : Nat} {n : Nd} (h : Cells5 w g o n) (hg : g < w.heap.size) (hb : Below w.heap.size w w1) : Cells5 w1 g o n :=
  ⟨(hb.cell (p := ⟨g, o, none⟩) hg).trans h.c0, (hb.cell (p := ⟨g, o + 1, none⟩) hg).trans h.c1, (hb.cell (p := ⟨g, o + 2, none⟩) hg).trans h.c2, (hb.cell (p := ⟨g, o + 3, none⟩) hg).trans h.c3, (hb.cell (p := ⟨g, o + 4, none⟩) hg).trans h.c4⟩

/-- an argument: a slice of nodes -/
def IsNodes (w : World) (v : Value) (ns : List Nd) : Prop :=
  (ns = [] ∧ ∃ a cap, v = .slice a 0 cap) ∨ ∃ g off cap, v = .slice (some ⟨g, off, none⟩) ns.length cap ∧ g < w.heap.size ∧
    ∀ i n, ns[i]? = some n → Cells5 w g (off + i * 6) n ∧ ∃ u, w.cell? ⟨g, off + i * 6 + 5, none⟩ = some u ∧ IsInts w u n.Kids
theorem IsNodes.of {w w1 : World} {v : Value} {ns : List Nd} (h : IsNodes w v ns) (hb : Below w.heap.size w w1) : IsNodes w1 v ns := by
  rcases h with h | ⟨g, off, cap, h1, h2, h3⟩
  · exact Or.inl h
  · refine Or.inr ⟨g, off, cap, h1, Nat.lt_of_lt_of_le h2 hb.size, fun i n hn => ?_⟩
    obtain ⟨h4, u, hu, hr⟩ := h3 i n hn
    exact ⟨h4.of h2 hb, u, (hb.cell (p := ⟨g, off + i * 6 + 5, none⟩) h2).trans hu, hr.of hb⟩

/-- nodes of the call's own making: the kids of each lie in a block behind -/
def NodesAt (w : World) (g off : Nat) (ns : List Nd) : Prop := ∀ i n, ns[i]? = some n → Cells5 w g (off + i * 6) n ∧
  ∃ kg, w.cell? ⟨g, off + i * 6 + 5, none⟩ = some (.slice (some ⟨kg, 0, none⟩) n.Kids.length n.Kids.length) ∧ g < kg ∧ kg < w.heap.size ∧ IntsAt w kg 0 n.Kids
theorem NodesAt.of {w w1 : World} {g off : Nat} {ns : List Nd} (h : NodesAt w g off ns) (hg : g < w.heap.size) (hb : Below w.heap.size w w1) : NodesAt w1 g off ns := fun i n hn => by
  obtain ⟨h1, kg, h2, h3, h4, h5⟩ := h i n hn
  exact ⟨h1.of hg hb, kg, (hb.cell (p := ⟨g, off + i * 6 + 5, none⟩) hg).trans h2, h3, Nat.lt_of_lt_of_le h4 hb.size, h5.of h4 hb⟩
theorem NodesAt.at {w : World} {g off : Nat} {ns : List Nd} (h : NodesAt w g off ns) (i : Nat) (hi : i < ns.length) : Cells5 w g (off + i * 6) ns[i] ∧
  ∃ kg, w.cell? ⟨g, off + i * 6 + 5, none⟩ = some (.slice (some ⟨kg, 0, none⟩) ns[i].Kids.length ns[i].Kids.length) ∧ g < kg ∧ kg < w.heap.size ∧ IntsAt w kg 0 ns[i].Kids := h i ns[i] (by simp [hi])

structure OwnNodes (w : World) (g n : Nat) (ns : List Nd) : Prop where
  size : g < w.heap.size
  frz : ∀ o, w.frozen? ⟨g, o, none⟩ = false
  all : ∀ o, o < n * 6 → ∃ v, w.cell? ⟨g, o, none⟩ = some v
  held : NodesAt w g 0 ns
theorem OwnNodes.of {w w1 : World} {g n : Nat} {ns : List Nd} (h : OwnNodes w g n ns) (hb : Below w.heap.size w w1) : OwnNodes w1 g n ns :=
  ⟨Nat.lt_of_lt_of_le h.size hb.size, fun o => (hb.frozen (p := ⟨g, o, none⟩) h.size).trans (h.frz o), fun o ho => by
    obtain ⟨v, hv⟩ := h.all o ho
    exact ⟨v, (hb.cell (p := ⟨g, o, none⟩) h.size).trans hv⟩, h.held.of h.size hb⟩
theorem OwnNodes.made (w : World) (n : Nat) (C : Array Value) (t : TypeId) (hC : C.size = n * 6) : OwnNodes (w.alloc (.cells C t)) w.heap.size n [] :=
  ⟨by simp, fun o => by simp [go_sem], fun o ho => ⟨C[o]'(by omega), by rw [World.cell?_alloc_at C t _ o rfl]; simp⟩, fun i x hx => by simp at hx⟩

/-- the world with node n stored at place k of block g -/
def putNode (w : World) (g o : Nat) (n : Nd) (kg : Nat) : World :=
  (((((w.setCell ⟨g, o, none⟩ (.int .i64 n.K)).setCell ⟨g, o + 1, none⟩ (.int .i64 n.N)).setCell ⟨g, o + 2, none⟩ (.int .i64 n.M)).setCell ⟨g, o + 3, none⟩ (.string n.S)).setCell ⟨g, o + 4, none⟩ (.string n.T)).setCell ⟨g, o + 5, none⟩ (.slice (some ⟨kg, 0, none⟩) n.Kids.length n.Kids.length)
theorem putNode_below {w0 w : World} {s : Nat} (h : Below s w0 w) {g o : Nat} (hg : s ≤ g) (n : Nd) (kg : Nat) : Below s w0 (putNode w g o n kg) :=
  (((((h.setCell (p := ⟨g, o, none⟩) hg _).setCell (p := ⟨g, o + 1, none⟩) hg _).setCell (p := ⟨g, o + 2, none⟩) hg _).setCell (p := ⟨g, o + 3, none⟩) hg _).setCell (p := ⟨g, o + 4, none⟩) hg _).setCell (p := ⟨g, o + 5, none⟩) hg _
theorem putNode_far {w : World} {g o : Nat} {n : Nd} {kg : Nat} {G O : Nat} (h : g ≠ G) : (putNode w g o n kg).cell? ⟨G, O, none⟩ = w.cell? ⟨G, O, none⟩ := by
  unfold putNode
  rw [setCell_farN h, setCell_farN h, setCell_farN h, setCell_farN h, setCell_farN h, setCell_farN h]
theorem putNode_else {w : World} {g o : Nat} {n : Nd} {kg : Nat} {O : Nat} (h : O < o ∨ o + 5 < O) : (putNode w g o n kg).cell? ⟨g, O, none⟩ = w.cell? ⟨g, O, none⟩ := by
  unfold putNode
  rw [setCell_otherN (by omega), setCell_otherN (by omega), setCell_otherN (by omega), setCell_otherN (by omega), setCell_otherN (by omega), setCell_otherN (by omega)]
theorem OwnNodes.put {w : World} {g n k : Nat} {ns : List Nd} (h : OwnNodes w g n (ns.take k)) (hk : k < ns.length) (hn : k < n) (kg : Nat) (h1 : g < kg) (h2 : kg < w.heap.size) (h3 : IntsAt w kg 0 ns[k].Kids) :
    OwnNodes (putNode w g (k * 6) ns[k] kg) g n (ns.take (k + 1)) := by
  have hsz : (putNode w g (k * 6) ns[k] kg).heap.size = w.heap.size := by simp [putNode]
  have hi6 : ∀ o, o < 6 → ∃ v, w.cell? ⟨g, k * 6 + o, none⟩ = some v := fun o ho => h.all _ (by omega)
  refine ⟨by rw [hsz]; exact h.size, fun o => by unfold putNode; simp only [frozen_setCellN]; exact h.frz o, fun o ho => ?_, fun i x hx => ?_⟩
  · obtain ⟨v, hv⟩ := h.all o ho
    unfold putNode
    obtain ⟨v, hv⟩ := setCell_thereN (o' := k * 6) (v := .int .i64 ns[k].K) hv
    obtain ⟨v, hv⟩ := setCell_thereN (o' := k * 6 + 1) (v := .int .i64 ns[k].N) hv
    obtain ⟨v, hv⟩ := setCell_thereN (o' := k * 6 + 2) (v := .int .i64 ns[k].M) hv
    obtain ⟨v, hv⟩ := setCell_thereN (o' := k * 6 + 3) (v := .string ns[k].S) hv
    obtain ⟨v, hv⟩ := setCell_thereN (o' := k * 6 + 4) (v := .string ns[k].T) hv
    exact setCell_thereN hv
  · rw [take_snocN ns k hk] at hx
    have hl : (ns.take k).length = k := by simp; omega
    by_cases hi : i < k
    · rw [List.getElem?_append_left (by omega)] at hx
      obtain ⟨⟨e0, e1, e2, e3, e4⟩, kg', e5, e6, e7, e8⟩ := h.held i x hx
      refine ⟨⟨?_, ?_, ?_, ?_, ?_⟩, kg', ?_, e6, by rw [hsz]; exact e7, fun j y hy => ?_⟩
      · rw [putNode_else (by omega)]; exact e0
      · rw [putNode_else (by omega)]; exact e1
      · rw [putNode_else (by omega)]; exact e2
      · rw [putNode_else (by omega)]; exact e3
      · rw [putNode_else (by omega)]; exact e4
      · rw [putNode_else (by omega)]; exact e5
      · rw [putNode_far (by omega)]; exact e8 j y hy
    · obtain rfl : i = k := by
        have := (List.getElem?_eq_some_iff.1 hx).1
        simp at this; omega
      rw [List.getElem?_append_right (by omega)] at hx
      simp [hl] at hx
      subst hx
      simp only [Nat.zero_add]
      obtain ⟨v0, c0⟩ := hi6 0 (by omega)
      obtain ⟨v1, c1⟩ := hi6 1 (by omega)
      obtain ⟨v2, c2⟩ := hi6 2 (by omega)
      obtain ⟨v3, c3⟩ := hi6 3 (by omega)
      obtain ⟨v4, c4⟩ := hi6 4 (by omega)
      obtain ⟨v5, c5⟩ := hi6 5 (by omega)
      refine ⟨⟨?_, ?_, ?_, ?_, ?_⟩, kg, ?_, h1, by rw [hsz]; exact h2, fun j y hy => ?_⟩
      · unfold putNode
        rw [setCell_otherN (by omega), setCell_otherN (by omega), setCell_otherN (by omega), setCell_otherN (by omega), setCell_otherN (by omega)]
        exact World.cell?_setCell_same _ _ _ c0
      · unfold putNode
        rw [setCell_otherN (by omega), setCell_otherN (by omega), setCell_otherN (by omega), setCell_otherN (by omega)]
        exact World.cell?_setCell_same _ _ _ (by rw [setCell_otherN (by omega)]; exact c1)
      · unfold putNode
        rw [setCell_otherN (by omega), setCell_otherN (by omega), setCell_otherN (by omega)]
        exact World.cell?_setCell_same _ _ _ (by rw [setCell_otherN (by omega), setCell_otherN (by omega)]; exact c2)
      · unfold putNode
        rw [setCell_otherN (by omega), setCell_otherN (by omega)]
        exact World.cell?_setCell_same _ _ _ (by rw [setCell_otherN (by omega), setCell_otherN (by omega), setCell_otherN (by omega)]; exact c3)
      · unfold putNode
        rw [setCell_otherN (by omega)]
        exact World.cell?_setCell_same _ _ _ (by rw [setCell_otherN (by omega), setCell_otherN (by omega), setCell_otherN (by omega), setCell_otherN (by omega)]; exact c4)
      · unfold putNode
        exact World.cell?_setCell_same _ _ _ (by rw [setCell_otherN (by omega), setCell_otherN (by omega), setCell_otherN (by omega), setCell_otherN (by omega), setCell_otherN (by omega)]; exact c5)
      · rw [putNode_far (by omega)]; exact h3 j y hy

/-- how much a tree holds, as the law counts it -/
def bulkN : List Nd → Nat
  | [] => 0
  | n :: r => n.S.size + n.T.size + n.Kids.length + bulkN r
theorem bulkN_append (a b : List Nd) : bulkN (a ++ b) = bulkN a + bulkN b := by
  induction a with
  | nil => simp [bulkN]
  | cons x a ih => simp only [List.cons_append, bulkN, ih]; omega
theorem bulkN_take (ns : List Nd) (k : Nat) (hk : k < ns.length) : bulkN (ns.take (k + 1)) = bulkN (ns.take k) + (ns[k].S.size + ns[k].T.size + ns[k].Kids.length) := by
  rw [take_snocN ns k hk, bulkN_append]; simp [bulkN]
theorem bulkN_take_le (ns : List Nd) (k : Nat) : bulkN (ns.take k) ≤ bulkN ns := by
  have := bulkN_append (ns.take k) (ns.drop k)
  rw [List.take_append_drop] at this
  omega
theorem bulkN_mem {ns : List Nd} {n : Nd} (h : n ∈ ns) : n.S.size + n.T.size + n.Kids.length ≤ bulkN ns := by
  induction ns with
  | nil => cases h
  | cons x r ih =>
    simp only [bulkN]
    cases List.mem_cons.1 h with
    | inl e => subst e; omega
    | inr e => have := ih e; omega
end Go.Proofs.YtnchcndcinpalaaGreatDoor
