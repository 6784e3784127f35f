import Derived.Test.YteebidljiemegaaDoorRdCols
import Derived.Test.YteebidljiemegaaDoorRdSplit
import Derived.Test.YteebidljiemegaaDoorSpecDb
namespace Go.Proofs.YteebidljiemegaaDoor
open Go Go.RowKit
def wtL (ps : List (List UInt8)) : Nat := (ps.map fun x => x.length + 1).foldr (· + ·) 0
theorem wtL_cons (x : List UInt8) (ps : List (List UInt8)) : wtL (x :: ps) = x.length + 1 + wtL ps := rfl
theorem wtL_append (a b : List (List UInt8)) : wtL (a ++ b) = wtL a + wtL b := by
  induction a with
  | nil => simp [wtL]
  | cons x a ih => rw [List.cons_append, wtL_cons, wtL_cons, ih]; omega
theorem cutF_wt (c : UInt8) (e : Bool) : ∀ (l cur : List UInt8), wtL (cutF c e cur l) ≤ cur.length + l.length + 1
  | [], cur => by
    unfold cutF
    split
    · simp [wtL]
    · simp [wtL]
  | b :: l, cur => by
    unfold cutF
    split
    · rw [wtL_append]
      have := cutF_wt c e l []
      split
      · simp [wtL] at this ⊢; omega
      · simp [wtL] at this ⊢; omega
    · have := cutF_wt c e l (cur ++ [b])
      simp at this ⊢; omega
theorem cutF_ne (c : UInt8) : ∀ (l cur : List UInt8), ∀ x ∈ cutF c false cur l, x ≠ []
  | [], cur, x, hx => by
    unfold cutF at hx
    split at hx
    · rename_i h
      simp at hx
      subst hx
      simpa using h
    · simp at hx
  | b :: l, cur, x, hx => by
    unfold cutF at hx
    split at hx
    · rw [List.mem_append] at hx
      rcases hx with hx | hx
      · split at hx
        · rename_i h
          simp at hx
          subst hx
          simpa using h
        · simp at hx
      · exact cutF_ne c l [] x hx
    · exact cutF_ne c l _ x hx
theorem wtL_mem {ps : List (List UInt8)} {x : List UInt8} (h : x ∈ ps) : x.length + 1 ≤ wtL ps := by
  induction ps with
  | nil => cases h
  | cons y r ih =>
    rw [wtL_cons]
    cases List.mem_cons.1 h with
    | inl e => subst e; omega
    | inr e => have := ih e; omega
theorem wtL_two (ps : List (List UInt8)) (h : ∀ x ∈ ps, x ≠ []) : 2 * ps.length ≤ wtL ps := by
  induction ps with
  | nil => simp
  | cons y r ih =>
    rw [wtL_cons]
    have h1 := List.length_pos_iff.2 (h y (by simp))
    have := ih (fun x hx => h x (by simp [hx]))
    simp; omega
def wt (xs : List ByteArray) : Nat := (xs.map fun x => x.size + 1).foldr (· + ·) 0
theorem wt_cons (x : ByteArray) (ps : List ByteArray) : wt (x :: ps) = x.size + 1 + wt ps := rfl
theorem wt_append (a b : List ByteArray) : wt (a ++ b) = wt a + wt b := by
  induction a with
  | nil => simp [wt]
  | cons x a ih => rw [List.cons_append, wt_cons, wt_cons, ih]; omega
theorem wt_map (ps : List (List UInt8)) : wt (ps.map fun x => ⟨x.toArray⟩) = wtL ps := by
  induction ps with
  | nil => rfl
  | cons x r ih => rw [List.map_cons, wt_cons, wtL_cons, ih]; simp [ByteArray.size]
theorem wt_lines (s : ByteArray) : wt (linesOf s) ≤ s.size + 1 := by
  unfold linesOf
  rw [wt_map]
  have := cutF_wt 10 true s.data.toList []
  have h3 : s.data.toList.length = s.size := Array.length_toList
  rw [h3, List.length_nil, Nat.zero_add] at this
  exact this
theorem wt_prefix {a b : List ByteArray} (h : a <+: b) : wt a ≤ wt b := by
  obtain ⟨t, rfl⟩ := h
  rw [wt_append]; omega
theorem words_facts (s : ByteArray) : (∀ x ∈ wordsOf s, 0 < x.size ∧ x.size ≤ s.size) ∧ 2 * (wordsOf s).length ≤ s.size + 1 := by
  have h1 := cutF_wt 32 false s.data.toList []
  have h2 := cutF_ne 32 s.data.toList []
  have h3 : s.data.toList.length = s.size := Array.length_toList
  simp only [List.length_nil, Nat.zero_add] at h1
  refine ⟨fun x hx => ?_, ?_⟩
  · unfold wordsOf cut at hx
    obtain ⟨y, hy, rfl⟩ := List.mem_map.1 hx
    have h4 := List.length_pos_iff.2 (h2 y hy)
    have h5 := wtL_mem hy
    show 0 < y.toArray.size ∧ y.toArray.size ≤ s.size
    rw [List.size_toArray]
    omega
  · have := wtL_two _ h2
    unfold wordsOf cut
    rw [List.length_map]
    omega
def tabL : List UInt8 := [116, 97, 98, 108, 101]
def rowL : List UInt8 := [114, 111, 119]
open Classical in
noncomputable def stepW (ts : List Tb) : List ByteArray → Option (List Tb)
  | [] => some ts
  | a :: r =>
    if a.toList = tabL then
      (match r with
       | [b, c] => if ColB c then some (ts ++ [⟨b, nVal c, []⟩]) else none
       | _ => none)
    else if a.toList = rowL ∧ ts ≠ [] ∧ ∀ x ∈ r, ValB x then some (addR ts (r.map valW)) else none
theorem stepW_tab {ts : List Tb} {a b c : ByteArray} (h : a.toList = tabL) (hc : ColB c) : stepW ts [a, b, c] = some (ts ++ [⟨b, nVal c, []⟩]) := by
  unfold stepW; simp only []; rw [if_pos h, if_pos hc]
theorem stepW_tabn {ts : List Tb} {a b c : ByteArray} (h : a.toList = tabL) (hc : ¬ ColB c) : stepW ts [a, b, c] = none := by
  unfold stepW; simp only []; rw [if_pos h, if_neg hc]
theorem stepW_tabl {ts : List Tb} {a : ByteArray} {r : List ByteArray} (h : a.toList = tabL) (hr : r.length ≠ 2) : stepW ts (a :: r) = none := by
  unfold stepW; simp only []; rw [if_pos h]
  match r, hr with
  | [], _ => rfl
  | [_], _ => rfl
  | [_, _], h => exact absurd rfl h
  | _ :: _ :: _ :: _, _ => rfl
theorem tab_ne_row : tabL ≠ rowL := by decide
theorem stepW_row {ts : List Tb} {a : ByteArray} {r : List ByteArray} (h : a.toList = rowL) (ht : ts ≠ []) (hr : ∀ x ∈ r, ValB x) : stepW ts (a :: r) = some (addR ts (r.map valW)) := by
  unfold stepW; simp only []; rw [if_neg (by rw [h]; exact fun e => tab_ne_row e.symm), if_pos ⟨h, ht, hr⟩]
theorem stepW_rown {ts : List Tb} {a : ByteArray} {r : List ByteArray} (h : a.toList ≠ tabL) (hn : ¬ (a.toList = rowL ∧ ts ≠ [] ∧ ∀ x ∈ r, ValB x)) : stepW ts (a :: r) = none := by
  unfold stepW; simp only []; rw [if_neg h, if_neg hn]
noncomputable def readL (ts : List Tb) : List ByteArray → Option (List Tb)
  | [] => some ts
  | x :: r => match stepW ts (wordsOf x) with
    | none => none
    | some t => readL t r
theorem readL_append : ∀ (a b : List ByteArray) (ts : List Tb), readL ts (a ++ b) = match readL ts a with | none => none | some t => readL t b
  | [], b, ts => rfl
  | x :: a, b, ts => by
    rw [List.cons_append, readL, readL]
    cases stepW ts (wordsOf x) with
    | none => rfl
    | some t => exact readL_append a b t
theorem readL_snoc (a : List ByteArray) (x : ByteArray) (ts : List Tb) : readL ts (a ++ [x]) = match readL ts a with | none => none | some t => stepW t (wordsOf x) := by
  rw [readL_append]
  cases readL ts a with
  | none => rfl
  | some t =>
    simp only [readL]
    cases stepW t (wordsOf x) <;> rfl
theorem readL_none {a b : List ByteArray} {ts : List Tb} (h : readL ts a = none) (hp : a <+: b) : readL ts b = none := by
  obtain ⟨t, rfl⟩ := hp
  rw [readL_append, h]
theorem bulk_append1 (a : List (List V2)) (x : List V2) : bulk (a ++ [x]) = bulk a + x.length := by
  induction a with
  | nil => simp [bulk]
  | cons y a ih => simp only [List.cons_append, bulk, ih]; omega
theorem bulkT_addR (ts : List Tb) (xs : List V2) : bulkT (addR ts xs) ≤ bulkT ts + 1 + xs.length := by
  cases hl : ts.getLast? with
  | none =>
    rw [List.getLast?_eq_none_iff] at hl
    subst hl
    simp [addR, bulkT]
  | some t =>
    have hne : ts ≠ [] := fun e => by rw [e] at hl; simp at hl
    have e := List.dropLast_concat_getLast hne
    rw [List.getLast?_eq_some_getLast hne] at hl
    have hl' := Option.some.inj hl
    rw [hl'] at e
    rw [← e, addR_snoc, bulkT_append, bulkT_append]
    simp [bulkT, bulk_append1]
    omega
theorem readL_bulk : ∀ (a : List ByteArray) (ts ts' : List Tb), readL ts a = some ts' → bulkT ts' + ts'.length ≤ bulkT ts + ts.length + wt a
  | [], ts, ts', h => by
    simp [readL] at h
    subst h
    simp [wt]
  | x :: a, ts, ts', h => by
    unfold readL at h
    cases hs : stepW ts (wordsOf x) with
    | none => rw [hs] at h; simp at h
    | some t =>
      rw [hs] at h
      simp only [] at h
      have ih := readL_bulk a t ts' h
      rw [wt_cons]
      have hw := words_facts x
      have key : bulkT t + t.length ≤ bulkT ts + ts.length + (x.size + 1) := by
        cases hws : wordsOf x with
        | nil =>
          rw [hws] at hs
          simp [stepW] at hs
          subst hs
          omega
        | cons b r =>
          rw [hws] at hs hw
          by_cases h1 : b.toList = tabL
          · by_cases h2 : r.length = 2
            · match r, h2 with
              | [c, d], _ =>
                by_cases h3 : ColB d
                · rw [stepW_tab h1 h3] at hs
                  obtain rfl := Option.some.inj hs
                  rw [bulkT_append]
                  have := (hw.1 c (by simp)).2
                  simp [bulkT, bulk]
                  omega
                · rw [stepW_tabn h1 h3] at hs; cases hs
            · rw [stepW_tabl h1 h2] at hs; cases hs
          · by_cases h2 : b.toList = rowL ∧ ts ≠ [] ∧ ∀ y ∈ r, ValB y
            · rw [stepW_row h2.1 h2.2.1 h2.2.2] at hs
              obtain rfl := Option.some.inj hs
              have := bulkT_addR ts (r.map valW)
              rw [addR_length]
              simp at this hw
              omega
            · rw [stepW_rown h1 h2] at hs; cases hs
      omega
end Go.Proofs.YteebidljiemegaaDoor
