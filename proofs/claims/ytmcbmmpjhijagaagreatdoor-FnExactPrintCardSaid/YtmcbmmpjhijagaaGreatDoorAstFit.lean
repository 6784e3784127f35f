import Derived.Test.YtmcbmmpjhijagaaGreatDoorQ0
import Derived.Laws.Strings
namespace Go.Proofs.YtmcbmmpjhijagaaGreatDoor
noncomputable def dB (p : Prop) : Bool := @decide p (Classical.propDecidable p)
theorem dB_true {p : Prop} (h : p) : dB p = true := by unfold dB; exact @decide_eq_true p (Classical.propDecidable p) h
theorem dB_false {p : Prop} (h : ¬ p) : dB p = false := by unfold dB; exact @decide_eq_false p (Classical.propDecidable p) h
theorem dB_iff {p : Prop} : dB p = true ↔ p := ⟨fun h => Classical.byContradiction fun hn => (by rw [dB_false hn] at h; cases h), dB_true⟩
theorem dB_congr {p q : Prop} (h : p ↔ q) : dB p = dB q := by rw [propext h]
def letter (c : Int) : Bool := (decide (65 ≤ c) && decide (c ≤ 90)) || (decide (97 ≤ c) && decide (c ≤ 122))
def digit (c : Int) : Bool := decide (48 ≤ c) && decide (c ≤ 57)
def part (c : Int) : Bool := letter c || digit c || decide (c = 95)
def byt (s : ByteArray) (i : Nat) : Int := ((s.toList.getD i 0).toNat : Int)
def kws : List (List UInt8) := [[83, 69, 76, 69, 67, 84], [68, 73, 83, 84, 73, 78, 67, 84], [70, 82, 79, 77], [87, 72, 69, 82, 69], [85, 78, 73, 79, 78], [65, 76, 76], [65, 78, 89], [65, 78, 68], [79, 82], [78, 79, 84], [69, 88, 73, 83, 84, 83], [73, 78], [73, 83], [78, 85, 76, 76], [67, 79, 85, 78, 84], [77, 73, 78], [77, 65, 88]]
def WordB (s : ByteArray) : Prop := 0 < s.size ∧ letter (byt s 0) = true ∧ ∀ i, i < s.size → part (byt s i) = true
def NameB (s : ByteArray) : Prop := WordB s ∧ s.size ≤ 64 ∧ s.toList ∉ kws
def scB (k : Int) : Bool := decide (1 ≤ k) && decide (k ≤ 4)
def quB (k : Int) : Bool := decide (k = 6) || decide (k = 7)
def cdB (k : Int) : Bool := decide (8 ≤ k) && decide (k ≤ 15)
def fives (k : Int) : Bool := decide (k = 5)
def sixes (k : Int) : Bool := decide (k = 6)
def rule (k : Int) : Int × Int × Int × Int × Bool × Bool :=
  if k = 1 then (-999999999999999999, 999999999999999999, 0, 0, false, false)
  else if k = 3 then (0, 999999999999999999, 0, 0, true, false)
  else if k = 4 then (0, 1, 1, 4, false, false)
  else if k = 5 then (0, 0, 0, 0, true, true)
  else if k = 6 then (1, 10000, 0, 1, false, false)
  else if k = 8 then (0, 0, 1, 6, false, false)
  else if k = 9 then (0, 0, 0, 1, false, false)
  else if k = 11 then (0, 0, 0, 1, false, false)
  else if k = 12 then (1, 2, 1, 6, false, false)
  else (0, 0, 0, 0, false, false)
def NameFits (s : ByteArray) (used : Bool) : Prop := if used then NameB s else s.toList = []
def Flds (n : Nd) : Prop := (1 ≤ n.K ∧ n.K ≤ 15) ∧ (n.K = 4 → (n.M = 1 ↔ n.N = 0)) ∧
  (rule n.K).1 ≤ n.N ∧ n.N ≤ (rule n.K).2.1 ∧ (rule n.K).2.2.1 ≤ n.M ∧ n.M ≤ (rule n.K).2.2.2.1 ∧ NameFits n.S (rule n.K).2.2.2.2.1 ∧ NameFits n.T (rule n.K).2.2.2.2.2
def cutI (r : List Int) : List Int := if (r.getLast?).any cdB then r.dropLast else r
def BlkI (ks : List Int) (N : Int) : Prop := N ≤ ks.length ∧ (∀ x ∈ ks.take N.toNat, scB x = true) ∧ (∀ x ∈ cutI (ks.drop N.toNat), fives x = true) ∧ 1 ≤ (cutI (ks.drop N.toNat)).length
def KidsI (K N : Int) (ks : List Int) : Prop :=
  if K = 4 ∨ K = 6 then BlkI ks N
  else if K = 7 then (∀ x ∈ ks, sixes x = true) ∧ 2 ≤ ks.length
  else if K = 8 then ks.length = 2 ∧ (∀ x ∈ ks, scB x = true)
  else if K = 9 then ks.length = 1 ∧ scB (ks.getD 0 0) = true
  else if K = 10 then ks.length = 1 ∧ quB (ks.getD 0 0) = true
  else if K = 11 ∨ K = 12 then ks.length = 2 ∧ scB (ks.getD 0 0) = true ∧ quB (ks.getD 1 0) = true
  else if K = 13 then ks.length = 1 ∧ cdB (ks.getD 0 0) = true
  else if K = 14 ∨ K = 15 then (∀ x ∈ ks, cdB x = true) ∧ 2 ≤ ks.length
  else ks.length = 0
def FitI (n : Nd) (ks : List Int) : Prop := Flds n ∧ KidsI n.K n.N ks
def ltr (k : Int) : UInt8 := if scB k then 115 else if k = 5 then 102 else if quB k then 113 else 99
def only (l : List UInt8) (c : UInt8) (least : Nat) : Prop := (∀ x ∈ l, x = c) ∧ least ≤ l.length
def cutS (r : List UInt8) : List UInt8 := if r.getLast? = some 99 then r.dropLast else r
def BlkS (l : List UInt8) (n : Int) : Prop := 0 ≤ n ∧ n ≤ l.length ∧ only (l.take n.toNat) 115 0 ∧ only (cutS (l.drop n.toNat)) 102 1
def shortB (n : Int) : Bool := decide (-1000000000000000000 < n) && decide (n < 1000000000000000000)
def FitS (n : Nd) (ks : List Int) : Prop :=
  let l := ks.map ltr
  ((n.S.toList ≠ []) ↔ (n.K = 3 ∨ n.K = 5)) ∧ ((n.T.toList ≠ []) ↔ n.K = 5) ∧
  (n.K = 1 ∨ n.K = 3 ∨ n.K = 4 ∨ n.K = 6 ∨ n.K = 12 ∨ n.N = 0) ∧ (n.K = 4 ∨ n.K = 6 ∨ n.K = 8 ∨ n.K = 9 ∨ n.K = 11 ∨ n.K = 12 ∨ n.M = 0) ∧
  (if n.K = 1 then l = [] ∧ shortB n.N = true
   else if n.K = 2 then l = []
   else if n.K = 3 then l = [] ∧ NameB n.S ∧ 0 ≤ n.N ∧ shortB n.N = true
   else if n.K = 5 then l = [] ∧ NameB n.S ∧ NameB n.T
   else if n.K = 4 then 1 ≤ n.M ∧ n.M ≤ 4 ∧ (n.N = 1 ↔ 1 < n.M) ∧ (n.N = 0 ↔ n.M = 1) ∧ BlkS l n.N
   else if n.K = 6 then (n.M = 0 ∨ n.M = 1) ∧ 1 ≤ n.N ∧ BlkS l n.N
   else if n.K = 7 then (∀ x ∈ ks, x = 6) ∧ 2 ≤ ks.length
   else if n.K = 8 then (1 ≤ n.M ∧ n.M ≤ 6) ∧ l = [115, 115]
   else if n.K = 9 then (n.M = 0 ∨ n.M = 1) ∧ l = [115]
   else if n.K = 10 then l = [113]
   else if n.K = 11 then (n.M = 0 ∨ n.M = 1) ∧ l = [115, 113]
   else if n.K = 12 then (1 ≤ n.M ∧ n.M ≤ 6) ∧ (n.N = 1 ∨ n.N = 2) ∧ l = [115, 113]
   else if n.K = 13 then l = [99]
   else (n.K = 14 ∨ n.K = 15) ∧ only l 99 2)
theorem ltr_s {k : Int} (_ : 1 ≤ k ∧ k ≤ 15) : ltr k = 115 ↔ scB k = true := by
  unfold ltr
  cases h : scB k
  · simp; split <;> (try split) <;> decide
  · simp
theorem ltr_f {k : Int} (_ : 1 ≤ k ∧ k ≤ 15) : ltr k = 102 ↔ fives k = true := by
  unfold ltr fives
  cases h : scB k
  · by_cases e : k = 5
    · simp [e]
    · simp [e]; split <;> decide
  · simp [scB] at h
    simp; omega
theorem ltr_q {k : Int} (_ : 1 ≤ k ∧ k ≤ 15) : ltr k = 113 ↔ quB k = true := by
  unfold ltr
  cases h : scB k
  · by_cases e : k = 5
    · subst e; simp [quB]
    · simp [e]
  · simp [scB] at h
    simp [quB]; omega
theorem ltr_c {k : Int} (h0 : 1 ≤ k ∧ k ≤ 15) : ltr k = 99 ↔ cdB k = true := by
  unfold ltr
  cases h : scB k
  · by_cases e : k = 5
    · subst e; simp [cdB]
    · cases q : quB k
      · simp [scB] at h; simp [quB] at q; simp [e, cdB]; omega
      · simp [quB] at q; simp [e, cdB]; omega
  · simp [scB] at h
    simp [cdB]; omega
theorem size_toList (s : ByteArray) : s.toList.length = s.size := by
  cases s
  rw [Go.ByteArray.toList_eq]
  simp [ByteArray.size]
theorem NameB.ne {s : ByteArray} (h : NameB s) : s.toList ≠ [] := by
  intro e
  have h1 := h.1.1
  rw [← size_toList, e] at h1
  simp at h1
theorem all_map {ks : List Int} {f : Int → Bool} {c : UInt8} (h : ∀ x ∈ ks, (ltr x = c ↔ f x = true)) : (∀ x ∈ ks.map ltr, x = c) ↔ ∀ x ∈ ks, f x = true := by
  constructor
  · intro h1 x hx
    exact (h x hx).1 (h1 _ (List.mem_map_of_mem hx))
  · intro h1 y hy
    obtain ⟨x, hx, rfl⟩ := List.mem_map.1 hy
    exact (h x hx).2 (h1 x hx)
theorem cut_map {r : List Int} (h : ∀ x ∈ r, 1 ≤ x ∧ x ≤ 15) : cutS (r.map ltr) = (cutI r).map ltr := by
  unfold cutS cutI
  rw [List.getLast?_map]
  cases e : r.getLast? with
  | none => simp
  | some x =>
    have hx := ltr_c (h x (List.mem_of_getLast? e))
    simp only [Option.map_some, Option.some.injEq, Option.any_some]
    by_cases hc : cdB x = true
    · rw [if_pos (hx.2 hc), if_pos hc, List.map_dropLast]
    · rw [if_neg (fun he => hc (hx.1 he)), if_neg hc]
theorem cutI_mem {r : List Int} {x : Int} (h : x ∈ cutI r) : x ∈ r := by
  unfold cutI at h
  split at h
  · exact (List.dropLast_sublist _).subset h
  · exact h
theorem blk_iff {ks : List Int} {N : Int} (hN : 0 ≤ N) (h : ∀ x ∈ ks, 1 ≤ x ∧ x ≤ 15) : BlkI ks N ↔ BlkS (ks.map ltr) N := by
  unfold BlkI BlkS only
  rw [← List.map_take, ← List.map_drop, cut_map (fun x hx => h x (List.mem_of_mem_drop hx)),
    all_map (f := scB) (fun x hx => ltr_s (h x (List.mem_of_mem_take hx))), all_map (f := fives) (fun x hx => ltr_f (h x (List.mem_of_mem_drop (cutI_mem hx))))]
  simp [hN]
theorem map1 {ks : List Int} {f : Int → Bool} {c : UInt8} (h : ∀ x ∈ ks, (ltr x = c ↔ f x = true)) : ks.map ltr = [c] ↔ ks.length = 1 ∧ f (ks.getD 0 0) = true := by
  match ks, h with
  | [], _ => simp
  | [a], h => simp [h a (by simp)]
  | a :: b :: r, _ => simp
theorem map2 {ks : List Int} {f g : Int → Bool} {c d : UInt8} (h : ∀ x ∈ ks, (ltr x = c ↔ f x = true)) (h' : ∀ x ∈ ks, (ltr x = d ↔ g x = true)) : ks.map ltr = [c, d] ↔ ks.length = 2 ∧ f (ks.getD 0 0) = true ∧ g (ks.getD 1 0) = true := by
  match ks, h, h' with
  | [], _, _ => simp
  | [a], _, _ => simp
  | [a, b], h, h' => simp [h a (by simp), h' b (by simp)]
  | a :: b :: _ :: r, _, _ => simp
theorem two_all {ks : List Int} {f : Int → Bool} : (ks.length = 2 ∧ f (ks.getD 0 0) = true ∧ f (ks.getD 1 0) = true) ↔ (ks.length = 2 ∧ ∀ x ∈ ks, f x = true) := by
  match ks with
  | [] => simp
  | [a] => simp
  | [a, b] => simp
  | a :: b :: _ :: r => simp
theorem fit_iff (n : Nd) (ks : List Int) (h : ∀ x ∈ ks, 1 ≤ x ∧ x ≤ 15) (hl : ks.length ≤ 10000) : FitI n ks ↔ FitS n ks := by
  obtain ⟨K, N, M, S, T, Kids⟩ := n
  have m1s := map1 (ks := ks) (f := scB) (c := 115) (fun x hx => ltr_s (h x hx))
  have m1q := map1 (ks := ks) (f := quB) (c := 113) (fun x hx => ltr_q (h x hx))
  have m1c := map1 (ks := ks) (f := cdB) (c := 99) (fun x hx => ltr_c (h x hx))
  have m2s := (map2 (ks := ks) (f := scB) (g := scB) (c := 115) (d := 115) (fun x hx => ltr_s (h x hx)) (fun x hx => ltr_s (h x hx))).trans two_all
  have m2q := map2 (ks := ks) (f := scB) (g := quB) (c := 115) (d := 113) (fun x hx => ltr_s (h x hx)) (fun x hx => ltr_q (h x hx))
  have ma := all_map (ks := ks) (f := cdB) (c := 99) (fun x hx => ltr_c (h x hx))
  have ml : (ks.map ltr).length = ks.length := by simp
  have m0 : ks.map ltr = [] ↔ ks.length = 0 := by simp
  have bI := fun hN => blk_iff (ks := ks) (N := N) hN h
  have hNS := NameB.ne (s := S)
  have hNT := NameB.ne (s := T)
  have bl : BlkS (ks.map ltr) N → N ≤ ks.length := fun hb => by have := hb.2.1; rw [ml] at this; exact this
  have hl' : (ks.length : Int) ≤ 10000 := by omega
  have bl' : BlkS (ks.map ltr) N → N ≤ 10000 := fun hb => Int.le_trans (bl hb) hl'
  clear bl hl'
  have s6 : (∀ x ∈ ks, sixes x = true) ↔ ∀ x ∈ ks, x = 6 := by simp [sixes]
  unfold FitI FitS Flds
  simp only [m1s, m1q, m1c, m2s, m2q, m0, only, ma, ml]
  generalize BlkS (ks.map ltr) N = BS at *
  by_cases hK : 1 ≤ K ∧ K ≤ 15
  · have hc : K = 1 ∨ K = 2 ∨ K = 3 ∨ K = 4 ∨ K = 5 ∨ K = 6 ∨ K = 7 ∨ K = 8 ∨ K = 9 ∨ K = 10 ∨ K = 11 ∨ K = 12 ∨ K = 13 ∨ K = 14 ∨ K = 15 := by omega
    rcases hc with rfl | rfl | rfl | rfl | rfl | rfl | rfl | rfl | rfl | rfl | rfl | rfl | rfl | rfl | rfl
    all_goals simp [rule, KidsI, NameFits, shortB, s6]
    all_goals clear m1s m1q m1c m2s m2q ma ml m0 s6 h
    all_goals grind
  · constructor
    · intro hh; exact absurd hh.1.1 hK
    · intro hh
      have := hh.2.2.2.2
      rw [if_neg (by omega), if_neg (by omega), if_neg (by omega), if_neg (by omega), if_neg (by omega), if_neg (by omega), if_neg (by omega), if_neg (by omega), if_neg (by omega), if_neg (by omega), if_neg (by omega), if_neg (by omega), if_neg (by omega)] at this
      omega
theorem Seg.len {ns : List Nd} {a b : Nat} {ks : List Int} (h : Seg ns a b ks) : ks.length + a ≤ b := by
  induction h with
  | nil a => simp
  | snoc h1 h2 i1 i2 => have := h2.le; simp; omega
def kindsOf (ns : List Nd) (ks : List Int) : List Int := ks.map fun x => kindAt ns x.toNat
structure IV (ns : List Nd) : Prop where
  lo : 1 ≤ ns.length
  hi : ns.length ≤ 10000
  seg : Seg ns 0 ns.length [((ns.length - 1 : Nat) : Int)]
  fit : ∀ (i : Nat) (n : Nd), ns[i]? = some n → FitI n (kindsOf ns n.Kids)
  deep : ∀ i, i < ns.length → dep ns i ≤ 200
  top : quB (kindAt ns (ns.length - 1)) = true
structure SV (ns : List Nd) : Prop where
  lo : 1 ≤ ns.length
  hi : ns.length ≤ 10000
  seg : Seg ns 0 ns.length [((ns.length - 1 : Nat) : Int)]
  fit : ∀ (i : Nat) (n : Nd), ns[i]? = some n → FitS n (kindsOf ns n.Kids)
  top : quB (kindAt ns (ns.length - 1)) = true
  deep : dep ns (ns.length - 1) ≤ 200
theorem Seg.each {ns : List Nd} {a b : Nat} {ks : List Int} (h : Seg ns a b ks) : ∀ j, a ≤ j → j < b → ∃ c, Seg ns c j (kidsAt ns j) := by
  induction h with
  | nil a => intro j h1 h2; omega
  | @snoc a c p ks h1 h2 i1 i2 =>
    intro j e1 e2
    by_cases hc : j < c
    · exact i1 j e1 hc
    · by_cases hp : j = p
      · subst hp; exact ⟨c, h2⟩
      · exact i2 j (by omega) (by omega)
theorem kidsAt_some {ns : List Nd} {i : Nat} {n : Nd} (h : ns[i]? = some n) : kidsAt ns i = n.Kids := by simp [kidsAt, h]
theorem kindAt_some {ns : List Nd} {i : Nat} {n : Nd} (h : ns[i]? = some n) : kindAt ns i = n.K := by simp [kindAt, h]
theorem FitS.range {n : Nd} {ks : List Int} (h : FitS n ks) : 1 ≤ n.K ∧ n.K ≤ 15 := by
  by_cases hK : 1 ≤ n.K ∧ n.K ≤ 15
  · exact hK
  · have := h.2.2.2.2
    rw [if_neg (by omega), if_neg (by omega), if_neg (by omega), if_neg (by omega), if_neg (by omega), if_neg (by omega), if_neg (by omega), if_neg (by omega), if_neg (by omega), if_neg (by omega), if_neg (by omega), if_neg (by omega), if_neg (by omega)] at this
    omega
theorem kinds_ok {ns : List Nd} (hi : ns.length ≤ 10000) {i : Nat} {n : Nd} (h : ns[i]? = some n) {p : Nat} {ks : List Int} (hs : Seg ns 0 p ks) (hp : p = ns.length) (hr : ∀ (j : Nat) (m : Nd), ns[j]? = some m → 1 ≤ m.K ∧ m.K ≤ 15) :
    (∀ x ∈ kindsOf ns n.Kids, 1 ≤ x ∧ x ≤ 15) ∧ (kindsOf ns n.Kids).length ≤ 10000 := by
  have hin : i < ns.length := (List.getElem?_eq_some_iff.1 h).1
  obtain ⟨c, hc⟩ := hs.each i (by omega) (by omega)
  rw [kidsAt_some h] at hc
  refine ⟨fun x hx => ?_, ?_⟩
  · obtain ⟨y, hy, rfl⟩ := List.mem_map.1 hx
    obtain ⟨q, rfl, _, hq⟩ := hc.kid y hy
    have hq' : q < ns.length := by omega
    have := hr q ns[q] (by simp [hq'])
    rw [show ((q : Int)).toNat = q by simp, kindAt_some (List.getElem?_eq_getElem hq')]
    exact this
  · have := hc.len
    simp [kindsOf]
    omega
theorem iv_iff_sv (ns : List Nd) : IV ns ↔ SV ns := by
  constructor
  · intro ⟨lo, hi, seg, fit, deep, top⟩
    refine ⟨lo, hi, seg, fun i n h => ?_, top, deep _ (by omega)⟩
    obtain ⟨h1, h2⟩ := kinds_ok hi h seg rfl (fun j m hm => (fit j m hm).1.1)
    exact (fit_iff n _ h1 h2).1 (fit i n h)
  · intro ⟨lo, hi, seg, fit, top, deep⟩
    refine ⟨lo, hi, seg, fun i n h => ?_, fun i h => ?_, top⟩
    · obtain ⟨h1, h2⟩ := kinds_ok hi h seg rfl (fun j m hm => (fit j m hm).range)
      exact (fit_iff n _ h1 h2).2 (fit i n h)
    · have := deep_all (n := ns.length - 1) (by rw [show ns.length - 1 + 1 = ns.length by omega]; exact seg) i (by omega)
      omega
end Go.Proofs.YtmcbmmpjhijagaaGreatDoor
