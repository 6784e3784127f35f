import Derived.Lib.FieldsP
import Derived.Lib.DecodeN
import Derived.Laws.Strings2
import Derived.Test.YtbbjhepagkkjeaaGreatDoorQ40
import Derived.RangeFuncNested
import Derived.RangeFuncLeaves
import Derived.RangeFuncBound
import Derived.Test.YtbbjhepagkkjeaaGreatDoorQ0
namespace Go.Proofs.YtbbjhepagkkjeaaGreatDoor
open Go
def cutF (c : UInt8) (e : Bool) : List UInt8 → List UInt8 → List (List UInt8)
  | cur, [] => if e = true ∨ cur ≠ [] then [cur] else []
  | cur, b :: r => if b = c then (if e = true ∨ cur ≠ [] then [cur] else []) ++ cutF c e [] r else cutF c e (cur ++ [b]) r
def cut (c : UInt8) (e : Bool) (l : List UInt8) : List (List UInt8) := cutF c e [] l
theorem cutF_run (c : UInt8) (e : Bool) : ∀ (xs cur r : List UInt8), (∀ b ∈ xs, b ≠ c) → cutF c e cur (xs ++ r) = cutF c e (cur ++ xs) r
  | [], cur, r, _ => by simp
  | b :: xs, cur, r, h => by
    rw [List.cons_append, cutF, if_neg (h b (by simp)), cutF_run c e xs _ r (fun y hy => h y (by simp [hy]))]
    simp
theorem cutF_hit (c : UInt8) (e : Bool) (cur r : List UInt8) : cutF c e cur (c :: r) = (if e = true ∨ cur ≠ [] then [cur] else []) ++ cutF c e [] r := by
  rw [cutF, if_pos rfl]
theorem cutF_end (c : UInt8) (e : Bool) (cur : List UInt8) : cutF c e cur [] = if e = true ∨ cur ≠ [] then [cur] else [] := rfl
theorem byte_at (s : ByteArray) (i : Nat) (h : i < s.size) : s.data.toList[i]? = some (s.get! i) := by
  have h' : i < s.data.size := h
  rw [Array.getElem?_toList, Array.getElem?_eq_getElem h']
  simp only [ByteArray.get!]
  rw [getElem!_pos s.data i h']
theorem dec_fact (s : ByteArray) (i : Nat) (h : i < s.size) : 1 ≤ (Utf8.decode s i).2 ∧ i + (Utf8.decode s i).2 ≤ s.size ∧ ((Utf8.decode s i).1 = 32 ↔ s.get! i = 32) ∧ ((Utf8.decode s i).1 = 32 → (Utf8.decode s i).2 = 1) ∧
    ∀ j, i < j → j < i + (Utf8.decode s i).2 → s.get! j ≠ 32 := by
  rw [Lib.decode_at]
  have e0 : (s.get! i = 32) ↔ ((s.get! i).toNat = 32) := ⟨fun h => by rw [h]; rfl, fun h => UInt8.toNat_inj.1 h⟩
  rw [e0]
  have k1 : ∀ j, (s.get! j).toNat / 64 = 2 → s.get! j ≠ 32 := fun j h e => by rw [e] at h; revert h; decide
  have q1 := k1 (i + 1)
  have q2 := k1 (i + 2)
  have q3 := k1 (i + 3)
  generalize (s.get! i).toNat = b0 at *
  unfold Lib.decodeN
  by_cases c0 : b0 < 128
  · rw [if_pos c0]
    exact ⟨by simp, by simp; omega, by simp, by simp, fun j h1 h2 => by simp at h2; omega⟩
  rw [if_neg c0]
  have bad : 1 ≤ ((65533, 1) : Nat × Nat).2 ∧ i + ((65533, 1) : Nat × Nat).2 ≤ s.size ∧ (((65533, 1) : Nat × Nat).1 = 32 ↔ b0 = 32) ∧ (((65533, 1) : Nat × Nat).1 = 32 → ((65533, 1) : Nat × Nat).2 = 1) ∧ ∀ j, i < j → j < i + ((65533, 1) : Nat × Nat).2 → s.get! j ≠ 32 :=
    ⟨by simp, by simp; omega, ⟨fun e => by simp at e, fun e => by omega⟩, by simp, fun j h1 h2 => by simp at h2; omega⟩
  by_cases c1 : b0 / 32 = 6 ∧ (1 < s.size - i ∧ (s.get! (i + 1)).toNat / 64 = 2)
  · rw [if_pos c1]
    split
    · refine ⟨by simp, by simp; omega, ⟨fun e => by simp at e; omega, fun e => by omega⟩, fun e => by simp at e; omega, fun j h1 h2 => ?_⟩
      simp at h2
      obtain rfl : j = i + 1 := by omega
      exact q1 c1.2.2
    · exact bad
  rw [if_neg c1]
  by_cases c2 : b0 / 16 = 14 ∧ (1 < s.size - i ∧ (s.get! (i + 1)).toNat / 64 = 2) ∧ (2 < s.size - i ∧ (s.get! (i + 2)).toNat / 64 = 2)
  · rw [if_pos c2]
    split
    · refine ⟨by simp, by simp; omega, ⟨fun e => by simp at e; omega, fun e => by omega⟩, fun e => by simp at e; omega, fun j h1 h2 => ?_⟩
      simp at h2
      have hj : j = i + 1 ∨ j = i + 2 := by omega
      rcases hj with rfl | rfl
      · exact q1 c2.2.1.2
      · exact q2 c2.2.2.2
    · exact bad
  rw [if_neg c2]
  by_cases c3 : b0 / 8 = 30 ∧ (1 < s.size - i ∧ (s.get! (i + 1)).toNat / 64 = 2) ∧ (2 < s.size - i ∧ (s.get! (i + 2)).toNat / 64 = 2) ∧ (3 < s.size - i ∧ (s.get! (i + 3)).toNat / 64 = 2)
  · rw [if_pos c3]
    split
    · refine ⟨by simp, by simp; omega, ⟨fun e => by simp at e; omega, fun e => by omega⟩, fun e => by simp at e; omega, fun j h1 h2 => ?_⟩
      simp at h2
      have hj : j = i + 1 ∨ j = i + 2 ∨ j = i + 3 := by omega
      rcases hj with rfl | rfl | rfl
      · exact q1 c3.2.1.2
      · exact q2 c3.2.2.1.2
      · exact q3 c3.2.2.2.2
    · exact bad
  rw [if_neg c3]
  exact bad
def pieceL (l : List UInt8) (x : Nat × Nat) : List UInt8 := (l.drop x.1).take (x.2 - x.1)
def curL (l : List UInt8) (pos : Nat) : Option Nat → List UInt8
  | none => []
  | some a => (l.drop a).take (pos - a)
theorem spans_cut (s : ByteArray) : ∀ (f pos : Nat) (st : Option Nat) (acc : List (Nat × Nat)), s.size - pos ≤ f → pos ≤ s.size → (∀ a, st = some a → a < pos) →
    (Lib.closeSpans s (Lib.spansFromP (fun x => x == 32) s f pos st acc)).map (pieceL s.data.toList) = acc.map (pieceL s.data.toList) ++ cutF 32 false (curL s.data.toList pos st) (s.data.toList.drop pos) := by
  have hlen : s.data.toList.length = s.size := Array.length_toList
  have stop : ∀ (pos : Nat) (st : Option Nat) (acc : List (Nat × Nat)), pos = s.size → (∀ a, st = some a → a < pos) → (Lib.closeSpans s (acc, st)).map (pieceL s.data.toList) = acc.map (pieceL s.data.toList) ++ cutF 32 false (curL s.data.toList pos st) (s.data.toList.drop pos) := by
    intro pos st acc hp hst
    subst hp
    rw [List.drop_eq_nil_of_le (by omega), cutF_end]
    cases st with
    | none => simp [Lib.closeSpans, curL]
    | some a =>
      have ha := hst a rfl
      have hne : curL s.data.toList s.size (some a) ≠ [] := by
        intro e
        have := congrArg List.length e
        unfold curL at this
        rw [List.length_take, List.length_drop, hlen, List.length_nil] at this
        omega
      rw [if_pos (Or.inr hne)]
      simp only [Lib.closeSpans, curL, pieceL, List.map_append, List.map_cons, List.map_nil]
  intro f
  induction f with
  | zero =>
    intro pos st acc h1 h2 hst
    exact stop pos st acc (by omega) hst
  | succ f ih =>
    intro pos st acc h1 h2 hst
    unfold Lib.spansFromP
    by_cases hp : pos < s.size
    · rw [if_pos hp]
      obtain ⟨d1, d2, d3, d4, d5⟩ := dec_fact s pos hp
      generalize Utf8.decode s pos = rn at *
      obtain ⟨r, n⟩ := rn
      simp only at d1 d2 d3 d4 d5 ⊢
      have hb := byte_at s pos hp
      have hdrop : s.data.toList.drop pos = s.get! pos :: s.data.toList.drop (pos + 1) := by
        obtain ⟨hl, e⟩ := List.getElem?_eq_some_iff.1 hb
        rw [List.drop_eq_getElem_cons hl, e]
      by_cases hr : r = 32
      · have hn := d4 hr
        subst hn
        have hc := d3.1 hr
        rw [if_pos (by simp [hr])]
        rw [hdrop, hc, cutF_hit]
        cases st with
        | none =>
          rw [ih (pos + 1) none acc (by omega) (by omega) (fun a e => by cases e)]
          simp [curL]
        | some a =>
          have ha := hst a rfl
          rw [ih (pos + 1) none _ (by omega) (by omega) (fun a e => by cases e)]
          have hne : curL s.data.toList pos (some a) ≠ [] := by
            intro e
            have := congrArg List.length e
            unfold curL at this
            rw [List.length_take, List.length_drop, hlen, List.length_nil] at this
            omega
          rw [if_pos (Or.inr hne)]
          simp [curL, pieceL]
      · rw [if_neg (by simp [hr])]
        have hrun : ∀ b ∈ (s.data.toList.drop pos).take n, b ≠ 32 := by
          intro b hb'
          obtain ⟨k, hk⟩ := List.getElem?_of_mem hb'
          rw [List.getElem?_take] at hk
          split at hk
          · rename_i hkn
            rw [List.getElem?_drop, byte_at s (pos + k) (by omega)] at hk
            injection hk with hk
            subst hk
            by_cases hk0 : k = 0
            · subst hk0
              rw [Nat.add_zero]
              exact fun e => hr (d3.2 e)
            · exact d5 (pos + k) (by omega) (by omega)
          · cases hk
        have hsplit : s.data.toList.drop pos = (s.data.toList.drop pos).take n ++ s.data.toList.drop (pos + n) := by
          rw [← List.drop_drop, List.take_append_drop]
        rw [hsplit, cutF_run _ _ _ _ _ hrun]
        cases st with
        | none =>
          simp only
          rw [ih (pos + n) (some pos) acc (by omega) (by omega) (fun a e => by injection e with e; omega)]
          simp [curL]
        | some a =>
          have ha := hst a rfl
          simp only
          rw [ih (pos + n) (some a) acc (by omega) (by omega) (fun b e => by injection e with e; omega)]
          congr 2
          show (s.data.toList.drop a).take (pos + n - a) = (s.data.toList.drop a).take (pos - a) ++ _
          have e1 : s.data.toList.drop pos = (s.data.toList.drop a).drop (pos - a) := by rw [List.drop_drop]; congr 1; omega
          rw [e1, show pos + n - a = (pos - a) + n by omega, List.take_add]
    · rw [if_neg hp]
      exact stop pos st acc (by omega) hst
theorem fields_cut (l : List UInt8) : Lib.goFieldsP (fun x => x == 32) ⟨l.toArray⟩ = (cut 32 false l).map fun x => ⟨x.toArray⟩ := by
  have h := spans_cut ⟨l.toArray⟩ l.length 0 none [] (by simp [ByteArray.size]) (Nat.zero_le _) (fun a e => by cases e)
  unfold Lib.goFieldsP Lib.spansOfP
  have e : (fun x : Nat × Nat => (ByteArray.mk l.toArray).extract x.1 x.2) = (fun x => ByteArray.mk x.toArray) ∘ pieceL l := by
    funext x
    simp [ByteArray.extract_mk, pieceL]
  rw [e, ← List.map_map]
  simp at h
  rw [show (ByteArray.mk l.toArray).size = l.length by simp [ByteArray.size], h]
  rfl
end Go.Proofs.YtbbjhepagkkjeaaGreatDoor
namespace Go.Proofs.YtbbjhepagkkjeaaGreatDoor
open Go Go.RowKit
def ColB (s : ByteArray) : Prop := NumB s ∧ digit (byt s 0) = true ∧ s.size ≤ 6
theorem colB_iff (s : ByteArray) (h0 : 0 < s.size) : ColB s ↔ (1 ≤ dgs s ∧ dgs s ≤ 18) ∧ dsp s = s.size ∧ s.size ≤ 6 := by
  have key : digit (byt s 0) = true → frn s = 0 := fun h => by
    unfold frn
    rw [if_neg (fun e => by rw [e.2, digit_45] at h; cases h)]
  constructor
  · rintro ⟨h1, h2, h3⟩
    have hf := key h2
    have h4 := (numB_dgs s).1 ⟨h1, by omega⟩
    refine ⟨⟨h4.1, h4.2.1⟩, ?_, h3⟩
    have h5 : dgs s = dsp s := by unfold dgs; rw [hf, ext_all]
    omega
  · rintro ⟨⟨h1, h2⟩, h3, h4⟩
    have h5 : digit (byt s 0) = true := dsp_in s 0 (by omega)
    have hf := key h5
    exact ⟨⟨by omega, fun i _ hi => dsp_in s i (by omega)⟩, h5, h4⟩
theorem colB_hd {s : ByteArray} (h0 : 0 < s.size) (h : ColB s) : hd s = s := by
  have hf : frn s = 0 := by
    unfold frn
    rw [if_neg (fun e => by have := h.2.1; rw [e.2, digit_45] at this; cases this)]
  have h1 := (colB_iff s h0).1 h
  refine hd_all s ?_
  unfold dgs
  rw [hf, ext_all]
  omega
set_option maxHeartbeats 4000000 in
theorem readCols_yes (s : ByteArray) (w : World) (h0 : 0 < s.size) (h : ColB s) : Calls Tryz.prog 82 #[.string s] w fun e w' => e = .returned (.tuple #[.int .i64 (nVal s), .bool true]) ∧ Below w.heap.size w w' := by
  have hs : s.size ≤ 1048576 := by have := h.2.2; omega
  obtain ⟨⟨d1, d2⟩, d3, d4⟩ := (colB_iff s h0).1 h
  have HS := hide (fun W => scanNumber_yes s W h0 hs d1 d2)
  rw [colB_hd h0 h] at HS
  have HP := hide (fun W => spanDig_calls s W hs)
  rw [d3] at HP
  have j6 : ¬ (6 : Int) < (s.size : Int) := by omega
  have j6' : decide ((6 : Int) < (s.size : Int)) = false := by simp; omega
  generalize nVal s = V at *
  clear h d1 d2 d3
  go_enter Tryz.func82, Tryz.ntmps82
  go_wp2_with fail
  refine (unhide HS _).mono ?_; rintro e w1 ⟨rfl, hb1⟩
  have HB1 := hide hb1
  clear hb1
  go_wp2_with fail
  refine (unhide HP _).mono ?_; rintro e w2 ⟨rfl, rfl⟩
  go_wp2
  refine bodyPost_ret (v := .tuple #[.int .i64 V, .bool true]) (by simp [results, Tryz.results82, go_sem]) rfl ⟨rfl, ?_⟩
  (repeat (first | refine Below.setCell ?_ (by dsimp only; omega) _ | refine bA ?_ _ | refine Below.drew ?_)); exact unhide HB1
set_option maxHeartbeats 4000000 in
theorem readCols_no (s : ByteArray) (w : World) (h0 : 0 < s.size) (hs : s.size ≤ 1048576) (h : ¬ ColB s) : Calls Tryz.prog 82 #[.string s] w fun e w' => e = .returned (.tuple #[.int .i64 0, .bool false]) ∧ Below w.heap.size w w' := by
  have hnot := fun x => h ((colB_iff s h0).2 x)
  clear h
  by_cases hdd : 1 ≤ dgs s ∧ dgs s ≤ 18
  · have HS := hide (fun W => scanNumber_yes s W h0 hs hdd.1 hdd.2)
    have HP := hide (fun W => spanDig_calls s W hs)
    generalize hd s = T at *
    generalize nVal T = V at *
    by_cases h3 : dsp s = s.size
    · rw [h3] at HP
      have j6 : (6 : Int) < (s.size : Int) := by
        have : ¬ s.size ≤ 6 := fun e => hnot ⟨hdd, h3, e⟩
        omega
      have j6' : decide ((6 : Int) < (s.size : Int)) = true := by simp; omega
      clear hnot hdd h3
      go_enter Tryz.func82, Tryz.ntmps82
      go_wp2_with fail
      refine (unhide HS _).mono ?_; rintro e w1 ⟨rfl, hb1⟩
      have HB1 := hide hb1
      clear hb1
      go_wp2_with fail
      refine (unhide HP _).mono ?_; rintro e w2 ⟨rfl, rfl⟩
      go_wp2
      refine bodyPost_ret (v := .tuple #[.int .i64 0, .bool false]) (by simp [results, Tryz.results82, go_sem]) rfl ⟨rfl, ?_⟩
      (repeat (first | refine Below.setCell ?_ (by dsimp only; omega) _ | refine bA ?_ _ | refine Below.drew ?_)); exact unhide HB1
    · generalize dsp s = D at *
      have j3 : (((D : Int)) == (s.size : Int)) = false := by simp; omega
      have j3' : (((D : Int)) != (s.size : Int)) = true := by simp [bne, j3]
      clear hnot hdd
      go_enter Tryz.func82, Tryz.ntmps82
      go_wp2_with fail
      refine (unhide HS _).mono ?_; rintro e w1 ⟨rfl, hb1⟩
      have HB1 := hide hb1
      clear hb1
      go_wp2_with fail
      refine (unhide HP _).mono ?_; rintro e w2 ⟨rfl, rfl⟩
      go_wp2
      refine bodyPost_ret (v := .tuple #[.int .i64 0, .bool false]) (by simp [results, Tryz.results82, go_sem]) rfl ⟨rfl, ?_⟩
      (repeat (first | refine Below.setCell ?_ (by dsimp only; omega) _ | refine bA ?_ _ | refine Below.drew ?_)); exact unhide HB1
  · have HS := hide (fun W => scanNumber_no s W h0 hs (by omega))
    clear hnot hdd
    go_enter Tryz.func82, Tryz.ntmps82
    go_wp2_with fail
    refine (unhide HS _).mono ?_; rintro e w1 ⟨rfl, hb1⟩
    have HB1 := hide hb1
    clear hb1
    go_wp2
    refine bodyPost_ret (v := .tuple #[.int .i64 0, .bool false]) (by simp [results, Tryz.results82, go_sem]) rfl ⟨rfl, ?_⟩
    (repeat (first | refine Below.setCell ?_ (by dsimp only; omega) _ | refine bA ?_ _ | refine Below.drew ?_)); exact unhide HB1
theorem clone_calls (s : ByteArray) (w : World) (hs : s.size ≤ 1048576) : Calls Tryz.prog 83 #[.string s] w fun e w' => e = .returned (.string s) ∧ Below w.heap.size w w' := by
  have HS := hide (fun W => sh_stringslite_Clone s W (by omega))
  go_enter Tryz.func83, Tryz.ntmps83
  go_wp2_with fail
  refine (unhide HS _).mono ?_; rintro e w1 ⟨rfl, hb1⟩
  have HB1 := hide hb1
  clear hb1
  go_wp2
  go_ret
  exact ⟨rfl, unhide HB1⟩
def wordsOf (s : ByteArray) : List ByteArray := (cut 32 false s.data.toList).map fun x => ⟨x.toArray⟩
theorem blank_pred (w : World) : PredAtRunes Tryz.prog 50 #[] (fun x => x == 32) w := fun W r hr hb => by
  unfold FnGives
  have HE : Hid (((r : Int) == 32) = (r == 32)) := by
    show _ = _
    by_cases h : r = 32
    · subst h; rfl
    · have h1 : ((r : Int) == 32) = false := by simp; omega
      have h2 : (r == 32) = false := by simp; omega
      rw [h1, h2]
  go_enter Tryz.func50, Tryz.ntmps50
  go_wp2
  go_ret
  exact ⟨congrArg (fun z => Ending.returned (.bool z)) (unhide HE), 0, rfl⟩
theorem lineWords_calls (s : ByteArray) (w : World) (hs : s.size ≤ 1048576) : Calls Tryz.prog 21 #[.string s] w fun e w' => ∃ A, e = .returned (.slice (some ⟨A, 0, none⟩) (wordsOf s).length (wordsOf s).length) ∧ w.heap.size ≤ A ∧
    w'.ownsRow w.heap.size 9 1 (.slice (some ⟨A, 0, none⟩) (wordsOf s).length (wordsOf s).length) (wordsOf s).length ((wordsOf s).map Value.string) ∧ Below w.heap.size w w' := by
  have e : Lib.goFieldsP (fun x => x == 32) s = wordsOf s := by
    have := fields_cut s.data.toList
    unfold wordsOf
    rw [← this]
  have HF := hide (fun W => sh_strings_FieldsFunc_runes 50 #[] (enters_of Tryz.func50 (by kernel_rfl) rfl) (fun x => x == 32) s W (by omega) (blank_pred W))
  rw [e] at HF
  generalize wordsOf s = ws at *
  clear e
  go_enter Tryz.func21, Tryz.ntmps21
  go_wp2_with fail
  refine (unhide HF _).mono ?_; rintro e w1 ⟨A, rfl, hA, ho, hb1⟩
  have HB1 := hide hb1; have HO := hide ho
  clear hb1 ho
  go_wp2
  go_ret
  exact ⟨A, rfl, hA, unhide HO, unhide HB1⟩
end Go.Proofs.YtbbjhepagkkjeaaGreatDoor
namespace Go.Proofs.YtbbjhepagkkjeaaGreatDoor
open Go Go.RowKit
def Box3 (b1 b2 b3 : Nat) (W W' : World) : Prop := W'.heap[b1]? = W.heap[b1]? ∧ W'.heap[b2]? = W.heap[b2]? ∧ W'.heap[b3]? = W.heap[b3]?
theorem Box3.trans {b1 b2 b3 : Nat} {A B C : World} (h : Box3 b1 b2 b3 A B) (k : Box3 b1 b2 b3 B C) : Box3 b1 b2 b3 A C := ⟨k.1.trans h.1, k.2.1.trans h.2.1, k.2.2.trans h.2.2⟩
theorem Box3.put {b1 b2 b3 m l : Nat} (h1 : b1 < m) (h2 : b2 < m) (h3 : b3 < m) (hl : m ≤ l) (W : World) (o : Obj) : Box3 b1 b2 b3 W (W.putObj l o) :=
  ⟨World.putObj_heap_other (by omega), World.putObj_heap_other (by omega), World.putObj_heap_other (by omega)⟩
def roundTo (b1 b2 b3 : Nat) (I Ix : List ByteArray → World → Prop) (xs : List ByteArray) (W : World) : Exit → Act → World → Prop
  | .normal, _, W' => KeepsOthers W W' ∧ Box3 b1 b2 b3 W W' ∧ I xs W'
  | .ret, _, W' => KeepsOthers W W' ∧ Ix xs W'
  | _, _, _ => False
def Iter (F : Fence) (n : Nat) (P : Program) (gf : Nat) (lb : Array Value) (b1 b2 b3 : Nat) (lines : List ByteArray) (w : World) : Prop :=
  ∀ (l : Nat) (J Jx : List ByteArray → World → Prop) (W : World), Box3 b1 b2 b3 w W → (∀ pre V v, J pre V → J pre (V.setCell ⟨b1, 0, none⟩ v)) →
    (∀ pre x V, pre ++ [x] <+: lines → J pre V → YieldAt F (n - 1) P l #[.string x] V fun e V' => (e = .returned (.bool true) ∧ J (pre ++ [x]) V' ∧ Box3 b1 b2 b3 V V') ∨ (e = .returned (.bool false) ∧ Jx (pre ++ [x]) V')) →
    J [] W → CallsIn F n P gf (#[.func (.yield l) #[] #[]] ++ lb) W fun e V' => (∃ v, e = .returned v) ∧ (J lines V' ∨ ∃ pre, pre <+: lines ∧ Jx pre V')
theorem range_split {F : Fence} {n : Nat} {P : Program} {g : Operand} {ps : Array Tmp} {assign body : Code} {Q : Exit → Act → World → Prop} {a : Act} {w : World} {gf : Nat} {lb : Array Value} {b1 b2 b3 : Nat} {lines : List ByteArray}
    (hro : F.round = none) (h1 : 1 ≤ n) (hg : a.eval g = .func (.func gf) #[] lb) (hF : F.fn gf) (eg : ∀ args w, (callFunc gf args).run P w = .ok (.enter gf args) w) (hps : ps.size = 1)
    (l1 : b1 < w.heap.size) (l2 : b2 < w.heap.size) (l3 : b3 < w.heap.size) (hit : Iter F (n - 1) P gf lb b1 b2 b3 lines w)
    (I Ix : List ByteArray → World → Prop) (hI : ∀ pre V o, I pre V → I pre (V.putObj (w.heap.size + 1) o)) (hIx : ∀ pre V o, Ix pre V → Ix pre (V.putObj (w.heap.size + 1) o)) (hIs : ∀ pre V v, I pre V → I pre (V.setCell ⟨b1, 0, none⟩ v)) (h0 : ∀ o, I [] ((w.alloc (.deferred (some []))).alloc o)) (a₁ : ByteArray → Act)
    (hassign : ∀ (l : Nat) (x : ByteArray) (W : World) (K : Act → World → Prop), K (a₁ x) W → assign.wpIn (F.inRound l) (n - 1 - 1) P (Exit.then K (fun _ _ _ => False)) { tmps := (ps.zip #[Value.string x]).foldl (fun t (p, v) => t.setIfInBounds p v) a.tmps, defers := [] } W)
    (hbody : ∀ (l : Nat) (pre : List ByteArray) (x : ByteArray) (W : World), pre ++ [x] <+: lines → I pre W → body.wpIn (F.inRound l) (n - 1 - 1) P (roundTo b1 b2 b3 I Ix (pre ++ [x]) W) (a₁ x) W)
    (hdone : ∀ (W : World), I lines W → W.heap[w.heap.size]? = some (.deferred (some [])) → Q .normal { a with defers := { target := .collected w.heap.size, args := #[] } :: a.defers } W)
    (hstop : ∀ (pre : List ByteArray) (W : World), pre <+: lines → Ix pre W → W.heap[w.heap.size]? = some (.deferred (some [])) → Code.ret.wpIn F n P Q { a with defers := { target := .collected w.heap.size, args := #[] } :: a.defers } W) :
    (Code.rangeFunc g ps assign body).wpIn F n P Q a w := by
  refine wpIn_rangeFunc (fun fn hfn => ?_)
  rw [hro]
  let R : LoopState → Option Code → Obj := fun st pe => .loop { state := st, pending := pe, fn := fn, tmps := a.tmps, params := ps, assign := assign, body := body, defers := w.heap.size }
  obtain ⟨m, hm⟩ : ∃ m, m = w.heap.size := ⟨_, rfl⟩
  obtain ⟨W1, hW1⟩ : ∃ W1, W1 = (w.alloc (.deferred (some []))).alloc (R .ready none) := ⟨_, rfl⟩
  have kD : W1.heap[m]? = some (.deferred (some [])) := by
    rw [hW1, hm]
    exact (Below.heap_alloc _ _ _ (by simp)).trans (World.alloc_heap_new w _)
  have kL : W1.heap[m + 1]? = some (R .ready none) := by
    rw [hW1, hm]
    have := World.alloc_heap_new (w.alloc (.deferred (some []))) (R .ready none)
    rwa [World.size_alloc] at this
  have kI : I [] W1 := by rw [hW1]; exact h0 _
  rw [← hm] at hI hIx hdone hstop
  have kB : Box3 b1 b2 b3 w W1 := by
    have go : ∀ b, b < w.heap.size → W1.heap[b]? = w.heap[b]? := fun b hb => by
      rw [hW1]
      exact (Below.heap_alloc _ _ b (by simp; omega)).trans (Below.heap_alloc w _ b hb)
    exact ⟨go _ l1, go _ l2, go _ l3⟩
  refine ⟨m + 1, [{ target := .collected m, args := #[] }], W1, { target := .fn (.func gf) lb, args := #[.func (.yield (m + 1)) #[] #[]] }, W1, gf, #[.func (.yield (m + 1)) #[] #[]] ++ lb, W1, ?_, ?_, ?_, ?_, fun _ => h1, ?_⟩
  · rw [hW1, hm]
    exact run_enterLoop_outer _ _ _ _ _
  · simp only [resolve, hg]
    simp [go_sem]
  · intro f' hf'
    simp [Target.leads] at hf'
    rw [← hf']
    exact hF
  · simp [invoke, go_sem, eg]
  refine (hit (m + 1) (fun pre V => I pre V ∧ V.heap[m]? = some (.deferred (some [])) ∧ V.heap[m + 1]? = some (R .ready none)) (fun pre V => Ix pre V ∧ V.heap[m]? = some (.deferred (some [])) ∧ V.heap[m + 1]? = some (R .done (some .ret))) W1 kB ?_ ?_ ⟨kI, kD, kL⟩).mono ?_
  · rintro pre V v ⟨j1, j2, j3⟩
    have ko := KeepsOthers.setCell V ⟨b1, 0, none⟩ v
    exact ⟨hIs pre V v j1, ko.same _ _ j2 rfl, ko.same _ _ j3 rfl⟩
  ·
    rintro pre x V hpx ⟨j1, j2, j3⟩
    refine ⟨fn, _, assign, body, run_yield (r := _) j3 (by simp [hps]), roundIn_of_wpIn hfn ?_⟩
    refine hassign _ x V _ ⟨_, run_beginRound j3 rfl, ?_⟩
    obtain ⟨V1, hV1⟩ : ∃ V1, V1 = V.putObj (m + 1) (R .busy none) := ⟨_, rfl⟩
    have hlt : m + 1 < V.heap.size := (Array.getElem?_eq_some_iff.1 j3).1
    have i3 : V1.heap[m + 1]? = some (R .busy none) := by rw [hV1]; exact World.putObj_heap_same hlt
    have i2 : V1.heap[m]? = some (.deferred (some [])) := by rw [hV1]; exact (World.putObj_heap_other (by omega)).trans j2
    have i1 : I pre V1 := by rw [hV1]; exact hI _ _ _ j1
    have ib : Box3 b1 b2 b3 V V1 := by rw [hV1]; exact Box3.put l1 l2 l3 (by omega) V _
    show body.wpIn (F.inRound (m + 1)) (n - 1 - 1) P _ (a₁ x) (V.putObj (m + 1) (R .busy none))
    rw [← hV1]
    refine wpIn_mono (hbody (m + 1) pre x V1 hpx i1) ?_
    rintro e a3 V3 hp
    cases e with
    | normal =>
      obtain ⟨p1, p2, p3⟩ := hp
      have q3 := p1.same _ _ i3 rfl
      have q2 := p1.same _ _ i2 rfl
      refine ⟨_, _, run_endRound none q3, .inl ⟨rfl, ⟨hI _ _ _ p3, (World.putObj_heap_other (by omega)).trans q2, World.putObj_heap_same (Array.getElem?_eq_some_iff.1 q3).1⟩, (ib.trans p2).trans (Box3.put l1 l2 l3 (by omega) V3 _)⟩⟩
    | ret =>
      obtain ⟨p1, p2⟩ := hp
      have q3 := p1.same _ _ i3 rfl
      have q2 := p1.same _ _ i2 rfl
      exact ⟨_, _, run_endRound (some .ret) q3, .inr ⟨rfl, hIx _ _ _ p2, (World.putObj_heap_other (by omega)).trans q2, World.putObj_heap_same (Array.getElem?_eq_some_iff.1 q3).1⟩⟩
    | exit id => exact hp.elim
    | goto t => exact hp.elim
    | panic ch => exact hp.elim
    | outgrown => exact hp.elim
  ·
    rintro e V ⟨⟨v, rfl⟩, (⟨j1, j2, j3⟩ | ⟨pre, hpre, j1, j2, j3⟩)⟩
    · exact ⟨none, _, run_endLoop j3 (by simp), hdone _ (hI _ _ _ j1) ((World.putObj_heap_other (by omega)).trans j2)⟩
    · exact ⟨some .ret, _, run_endLoop j3 (by simp), hstop pre _ hpre (hIx _ _ _ j1) ((World.putObj_heap_other (by omega)).trans j2)⟩
end Go.Proofs.YtbbjhepagkkjeaaGreatDoor
