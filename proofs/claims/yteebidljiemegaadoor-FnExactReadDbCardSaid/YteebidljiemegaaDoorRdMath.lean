import Derived.Lib.FieldsP
import Derived.Lib.DecodeN
import Derived.Laws.Strings2
namespace Go.Proofs.YteebidljiemegaaDoor
open Go
def cutF (c : UInt8) (e : Bool) : List UInt8 → List UInt8 → List (List UInt8)
  | cur, [] => if e = true ∨ cur ≠ [] then [cur] else []
  | cur, b :: r => if b = c then (if e = true ∨ cur ≠ [] then [cur] else []) ++ cutF c e [] r else cutF c e (cur ++ [b]) r
def cut (c : UInt8) (e : Bool) (l : List UInt8) : List (List UInt8) := cutF c e [] l
theorem cutF_run (c : UInt8) (e : Bool) : ∀ (xs cur r : List UInt8), (∀ b ∈ xs, b ≠ c) → cutF c e cur (xs ++ r) = cutF c e (cur ++ xs) r
  | [], cur, r, _ => by simp
  | b :: xs, cur, r, h => by
    rw [List.cons_append, cutF, if_neg (h b (by simp)), cutF_run c e xs _ r (fun y hy => h y (by simp [hy]))]
    simp
theorem cutF_hit (c : UInt8) (e : Bool) (cur r : List UInt8) : cutF c e cur (c :: r) = (if e = true ∨ cur ≠ [] then [cur] else []) ++ cutF c e [] r := by
  rw [cutF, if_pos rfl]
theorem cutF_end (c : UInt8) (e : Bool) (cur : List UInt8) : cutF c e cur [] = if e = true ∨ cur ≠ [] then [cur] else [] := rfl
theorem byte_at (s : ByteArray) (i : Nat) (h : i < s.size) : s.data.toList[i]? = some (s.get! i) := by
  have h' : i < s.data.size := h
  rw [Array.getElem?_toList, Array.getElem?_eq_getElem h']
  simp only [ByteArray.get!]
  rw [getElem!_pos s.data i h']
theorem dec_fact (s : ByteArray) (i : Nat) (h : i < s.size) : 1 ≤ (Utf8.decode s i).2 ∧ i + (Utf8.decode s i).2 ≤ s.size ∧ ((Utf8.decode s i).1 = 32 ↔ s.get! i = 32) ∧ ((Utf8.decode s i).1 = 32 → (Utf8.decode s i).2 = 1) ∧
    ∀ j, i < j → j < i + (Utf8.decode s i).2 → s.get! j ≠ 32 := by
  rw [Lib.decode_at]
  have e0 : (s.get! i = 32) ↔ ((s.get! i).toNat = 32) := ⟨fun h => by rw [h]; rfl, fun h => UInt8.toNat_inj.1 h⟩
  rw [e0]
  have k1 : ∀ j, (s.get! j).toNat / 64 = 2 → s.get! j ≠ 32 := fun j h e => by rw [e] at h; revert h; decide
  have q1 := k1 (i + 1)
  have q2 := k1 (i + 2)
  have q3 := k1 (i + 3)
  generalize (s.get! i).toNat = b0 at *
  unfold Lib.decodeN
  by_cases c0 : b0 < 128
  · rw [if_pos c0]
    exact ⟨by simp, by simp; omega, by simp, by simp, fun j h1 h2 => by simp at h2; omega⟩
  rw [if_neg c0]
  have bad : 1 ≤ ((65533, 1) : Nat × Nat).2 ∧ i + ((65533, 1) : Nat × Nat).2 ≤ s.size ∧ (((65533, 1) : Nat × Nat).1 = 32 ↔ b0 = 32) ∧ (((65533, 1) : Nat × Nat).1 = 32 → ((65533, 1) : Nat × Nat).2 = 1) ∧ ∀ j, i < j → j < i + ((65533, 1) : Nat × Nat).2 → s.get! j ≠ 32 :=
    ⟨by simp, by simp; omega, ⟨fun e => by simp at e, fun e => by omega⟩, by simp, fun j h1 h2 => by simp at h2; omega⟩
  by_cases c1 : b0 / 32 = 6 ∧ (1 < s.size - i ∧ (s.get! (i + 1)).toNat / 64 = 2)
  · rw [if_pos c1]
    split
    · refine ⟨by simp, by simp; omega, ⟨fun e => by simp at e; omega, fun e => by omega⟩, fun e => by simp at e; omega, fun j h1 h2 => ?_⟩
      simp at h2
      obtain rfl : j = i + 1 := by omega
      exact q1 c1.2.2
    · exact bad
  rw [if_neg c1]
  by_cases c2 : b0 / 16 = 14 ∧ (1 < s.size - i ∧ (s.get! (i + 1)).toNat / 64 = 2) ∧ (2 < s.size - i ∧ (s.get! (i + 2)).toNat / 64 = 2)
  · rw [if_pos c2]
    split
    · refine ⟨by simp, by simp; omega, ⟨fun e => by simp at e; omega, fun e => by omega⟩, fun e => by simp at e; omega, fun j h1 h2 => ?_⟩
      simp at h2
      have hj : j = i + 1 ∨ j = i + 2 := by omega
      rcases hj with rfl | rfl
      · exact q1 c2.2.1.2
      · exact q2 c2.2.2.2
    · exact bad
  rw [if_neg c2]
  by_cases c3 : b0 / 8 = 30 ∧ (1 < s.size - i ∧ (s.get! (i + 1)).toNat / 64 = 2) ∧ (2 < s.size - i ∧ (s.get! (i + 2)).toNat / 64 = 2) ∧ (3 < s.size - i ∧ (s.get! (i + 3)).toNat / 64 = 2)
  · rw [if_pos c3]
    split
    · refine ⟨by simp, by simp; omega, ⟨fun e => by simp at e; omega, fun e => by omega⟩, fun e => by simp at e; omega, fun j h1 h2 => ?_⟩
      simp at h2
      have hj : j = i + 1 ∨ j = i + 2 ∨ j = i + 3 := by omega
      rcases hj with rfl | rfl | rfl
      · exact q1 c3.2.1.2
      · exact q2 c3.2.2.1.2
      · exact q3 c3.2.2.2.2
    · exact bad
  rw [if_neg c3]
  exact bad
def pieceL (l : List UInt8) (x : Nat × Nat) : List UInt8 := (l.drop x.1).take (x.2 - x.1)
def curL (l : List UInt8) (pos : Nat) : Option Nat → List UInt8
  | none => []
  | some a => (l.drop a).take (pos - a)
theorem spans_cut (s : ByteArray) : ∀ (f pos : Nat) (st : Option Nat) (acc : List (Nat × Nat)), s.size - pos ≤ f → pos ≤ s.size → (∀ a, st = some a → a < pos) →
    (Lib.closeSpans s (Lib.spansFromP (fun x => x == 32) s f pos st acc)).map (pieceL s.data.toList) = acc.map (pieceL s.data.toList) ++ cutF 32 false (curL s.data.toList pos st) (s.data.toList.drop pos) := by
  have hlen : s.data.toList.length = s.size := Array.length_toList
  have stop : ∀ (pos : Nat) (st : Option Nat) (acc : List (Nat × Nat)), pos = s.size → (∀ a, st = some a → a < pos) → (Lib.closeSpans s (acc, st)).map (pieceL s.data.toList) = acc.map (pieceL s.data.toList) ++ cutF 32 false (curL s.data.toList pos st) (s.data.toList.drop pos) := by
    intro pos st acc hp hst
    subst hp
    rw [List.drop_eq_nil_of_le (by omega), cutF_end]
    cases st with
    | none => simp [Lib.closeSpans, curL]
    | some a =>
      have ha := hst a rfl
      have hne : curL s.data.toList s.size (some a) ≠ [] := by
        intro e
        have := congrArg List.length e
        unfold curL at this
        rw [List.length_take, List.length_drop, hlen, List.length_nil] at this
        omega
      rw [if_pos (Or.inr hne)]
      simp only [Lib.closeSpans, curL, pieceL, List.map_append, List.map_cons, List.map_nil]
  intro f
  induction f with
  | zero =>
    intro pos st acc h1 h2 hst
    exact stop pos st acc (by omega) hst
  | succ f ih =>
    intro pos st acc h1 h2 hst
    unfold Lib.spansFromP
    by_cases hp : pos < s.size
    · rw [if_pos hp]
      obtain ⟨d1, d2, d3, d4, d5⟩ := dec_fact s pos hp
      generalize Utf8.decode s pos = rn at *
      obtain ⟨r, n⟩ := rn
      simp only at d1 d2 d3 d4 d5 ⊢
      have hb := byte_at s pos hp
      have hdrop : s.data.toList.drop pos = s.get! pos :: s.data.toList.drop (pos + 1) := by
        obtain ⟨hl, e⟩ := List.getElem?_eq_some_iff.1 hb
        rw [List.drop_eq_getElem_cons hl, e]
      by_cases hr : r = 32
      · have hn := d4 hr
        subst hn
        have hc := d3.1 hr
        rw [if_pos (by simp [hr])]
        rw [hdrop, hc, cutF_hit]
        cases st with
        | none =>
          rw [ih (pos + 1) none acc (by omega) (by omega) (fun a e => by cases e)]
          simp [curL]
        | some a =>
          have ha := hst a rfl
          rw [ih (pos + 1) none _ (by omega) (by omega) (fun a e => by cases e)]
          have hne : curL s.data.toList pos (some a) ≠ [] := by
            intro e
            have := congrArg List.length e
            unfold curL at this
            rw [List.length_take, List.length_drop, hlen, List.length_nil] at this
            omega
          rw [if_pos (Or.inr hne)]
          simp [curL, pieceL]
      · rw [if_neg (by simp [hr])]
        have hrun : ∀ b ∈ (s.data.toList.drop pos).take n, b ≠ 32 := by
          intro b hb'
          obtain ⟨k, hk⟩ := List.getElem?_of_mem hb'
          rw [List.getElem?_take] at hk
          split at hk
          · rename_i hkn
            rw [List.getElem?_drop, byte_at s (pos + k) (by omega)] at hk
            injection hk with hk
            subst hk
            by_cases hk0 : k = 0
            · subst hk0
              rw [Nat.add_zero]
              exact fun e => hr (d3.2 e)
            · exact d5 (pos + k) (by omega) (by omega)
          · cases hk
        have hsplit : s.data.toList.drop pos = (s.data.toList.drop pos).take n ++ s.data.toList.drop (pos + n) := by
          rw [← List.drop_drop, List.take_append_drop]
        rw [hsplit, cutF_run _ _ _ _ _ hrun]
        cases st with
        | none =>
          simp only
          rw [ih (pos + n) (some pos) acc (by omega) (by omega) (fun a e => by injection e with e; omega)]
          simp [curL]
        | some a =>
          have ha := hst a rfl
          simp only
          rw [ih (pos + n) (some a) acc (by omega) (by omega) (fun b e => by injection e with e; omega)]
          congr 2
          show (s.data.toList.drop a).take (pos + n - a) = (s.data.toList.drop a).take (pos - a) ++ _
          have e1 : s.data.toList.drop pos = (s.data.toList.drop a).drop (pos - a) := by rw [List.drop_drop]; congr 1; omega
          rw [e1, show pos + n - a = (pos - a) + n by omega, List.take_add]
    · rw [if_neg hp]
      exact stop pos st acc (by omega) hst
theorem fields_cut (l : List UInt8) : Lib.goFieldsP (fun x => x == 32) ⟨l.toArray⟩ = (cut 32 false l).map fun x => ⟨x.toArray⟩ := by
  have h := spans_cut ⟨l.toArray⟩ l.length 0 none [] (by simp [ByteArray.size]) (Nat.zero_le _) (fun a e => by cases e)
  unfold Lib.goFieldsP Lib.spansOfP
  have e : (fun x : Nat × Nat => (ByteArray.mk l.toArray).extract x.1 x.2) = (fun x => ByteArray.mk x.toArray) ∘ pieceL l := by
    funext x
    simp [ByteArray.extract_mk, pieceL]
  rw [e, ← List.map_map]
  simp at h
  rw [show (ByteArray.mk l.toArray).size = l.length by simp [ByteArray.size], h]
  rfl
end Go.Proofs.YteebidljiemegaaDoor
