import Derived.Test.YtbbjhepagkkjeaaGreatDoorQ41
import Derived.Test.YtbbjhepagkkjeaaGreatDoorRdShelf
import Derived.Test.YtbbjhepagkkjeaaGreatDoorQ9
import Derived.Test.YtbbjhepagkkjeaaGreatDoorQ37
import Derived.Lib.IndexLaws
import Derived.Shelf.Abstract
import Derived.Shelf.RegionOpen
import Derived.WalkKit
import Derived.OwnWalkIn
import Derived.TacticsInMore
import Derived.LoopNIn
import Derived.LoopIn
import Derived.RangeFuncCalls
import Derived.Test.YtbbjhepagkkjeaaGreatDoorQ23
import Derived.Deep.AppendLies
import Derived.Handy
namespace Go.Proofs.YtbbjhepagkkjeaaGreatDoor
open Go Go.RowKit Go.Shelf
attribute [local go_sem] Oper.semAt_some
theorem cut_none (l : List UInt8) (c : UInt8) (h : Lib.indexByte l c = -1) : cut c true l = [l] := by
  have hno : ∀ b ∈ l, b ≠ c := fun b hb e => by
    subst e
    obtain ⟨k, hk⟩ := List.getElem?_of_mem hb
    exact Lib.indexByte_none h k hk
  have := cutF_run c true l [] [] hno
  rw [List.append_nil] at this
  unfold cut
  rw [this, cutF_end]
  simp
theorem cut_some (l : List UInt8) (c : UInt8) (o : Nat) (h : Lib.indexByte l c = o) : cut c true l = l.take o :: cut c true (l.drop (o + 1)) := by
  obtain ⟨h1, h2⟩ := Lib.indexByte_some h
  have hlt := (List.getElem?_eq_some_iff.1 h1).1
  have hl : l = l.take o ++ c :: l.drop (o + 1) := by
    have e := List.getElem?_eq_some_iff.1 h1
    conv => lhs; rw [← List.take_append_drop o l, List.drop_eq_getElem_cons hlt, e.2]
  have hno : ∀ b ∈ l.take o, b ≠ c := fun b hb e => by
    subst e
    obtain ⟨k, hk⟩ := List.getElem?_of_mem hb
    rw [List.getElem?_take] at hk
    split at hk
    · rename_i hko
      exact h2 k hko hk
    · cases hk
  unfold cut
  conv => lhs; rw [hl]
  rw [cutF_run c true _ _ _ hno, cutF_hit]
  simp
def linesOf (s : ByteArray) : List ByteArray := (cut 10 true s.data.toList).map fun x => ⟨x.toArray⟩
theorem lines_none (s : ByteArray) (h : Lib.indexByte s.data.toList 10 = -1) : linesOf s = [s] := by
  unfold linesOf
  rw [cut_none _ _ h]
  rfl
theorem lines_some (s : ByteArray) (o : Nat) (h : Lib.indexByte s.data.toList 10 = o) : linesOf s = s.extract 0 o :: linesOf (s.extract (o + 1) s.size) := by
  unfold linesOf
  rw [cut_some _ _ _ h]
  have e1 : s.extract 0 o = ⟨(s.data.toList.take o).toArray⟩ := by
    have h1 := ext_list s 0 o
    rw [Go.ByteArray.toList_eq, Go.ByteArray.toList_eq, List.drop_zero, Nat.sub_zero] at h1
    apply ByteArray.ext
    apply Array.toList_inj.1
    rw [h1]
  have e2 : (s.extract (o + 1) s.size).data.toList = s.data.toList.drop (o + 1) := by
    have h1 := ext_list s (o + 1) s.size
    rw [Go.ByteArray.toList_eq, Go.ByteArray.toList_eq] at h1
    rw [h1]
    apply List.take_of_length_le
    rw [List.length_drop, Array.length_toList]
    exact Nat.le_refl _
  rw [e2, e1]
  rfl
def leftW (b : Nat) (W : World) : Nat := match W.cell? ⟨b, 0, none⟩ with | some (.string s) => s.size | _ => 0
theorem leftW_eq {b : Nat} {W : World} {s : ByteArray} (h : W.cell? ⟨b, 0, none⟩ = some (.string s)) : leftW b W = s.size := by unfold leftW; rw [h]
set_option maxRecDepth 100000 in
set_option maxHeartbeats 4000000 in
theorem split_iter (n b1 b2 b3 : Nat) (T : ByteArray) (w : World) (hT : T.size ≤ 1048576) (h12 : b1 ≠ b2) (h13 : b1 ≠ b3) (c1 : w.cell? ⟨b1, 0, none⟩ = some (.string T)) (f1 : w.frozen? ⟨b1, 0, none⟩ = false) (c2 : w.cell? ⟨b2, 0, none⟩ = some (.string ⟨#[10]⟩)) (c3 : w.cell? ⟨b3, 0, none⟩ = some (.int .i64 0)) (hn : 1 ≤ n) :
    Iter Fence.wide n Tryz.prog 79 #[.pointer (some ⟨b2, 0, none⟩), .pointer (some ⟨b1, 0, none⟩), .pointer (some ⟨b3, 0, none⟩)] b1 b2 b3 (linesOf T) w := fun l J Jx W hB hJs hY hJ0 => by
  have k1 : W.cell? ⟨b1, 0, none⟩ = some (.string T) := (World.cell?_of_block (a := ⟨b1, 0, none⟩) hB.1).trans c1
  have g1 : W.frozen? ⟨b1, 0, none⟩ = false := (World.frozen?_of_block (a := ⟨b1, 0, none⟩) hB.1).trans f1
  have k2 : W.cell? ⟨b2, 0, none⟩ = some (.string ⟨#[10]⟩) := (World.cell?_of_block (a := ⟨b2, 0, none⟩) hB.2.1).trans c2
  have k3 : W.cell? ⟨b3, 0, none⟩ = some (.int .i64 0) := (World.cell?_of_block (a := ⟨b3, 0, none⟩) hB.2.2).trans c3
  have HY := hide hY; have HJs := hide hJs
  clear hB c1 f1 c2 c3 hY hJs
  refine callsIn_of_wp Tryz.func79 rfl trivial ?_ rfl
  simp only [Tryz.ntmps79, List.size_toArray, List.length_cons, List.length_nil, Nat.reduceAdd, Nat.reduceSub, Array.replicate_succ, Array.replicate_zero, List.push_toArray, List.append_toArray, List.nil_append, List.cons_append]
  gi_wp2
  gi_loopw [7] (fun _ wr => ∃ (pre : List ByteArray) (S : ByteArray), pre ++ linesOf S = linesOf T ∧ S.size ≤ 1048576 ∧ wr.cell? ⟨b1, 0, none⟩ = some (.string S) ∧ wr.frozen? ⟨b1, 0, none⟩ = false ∧ wr.cell? ⟨b2, 0, none⟩ = some (.string ⟨#[10]⟩) ∧ wr.cell? ⟨b3, 0, none⟩ = some (.int .i64 0) ∧ J pre wr) (fun _ wr => leftW b1 wr)
  case atStart => exact ⟨[], T, rfl, hT, k1, g1, k2, k3, hJ0⟩
  case round =>
    obtain ⟨pre, S, hS, hSz, d1, e1, d2, d3, hJ⟩ := hrel
    have IX := sh_strings_Index_one S 10 wr
    have hge := Lib.indexByte_ge S.data.toList 10
    by_cases hneg : Lib.indexByte S.data.toList 10 = -1
    · rw [hneg] at IX
      rw [lines_none S hneg] at hS
      obtain ⟨fn, tmps, assign, body, hy, hR⟩ := unhide HY pre S wr ⟨[], by rw [List.append_nil]; exact hS⟩ hJ
      have HIX := hide IX
      clear IX hneg hge k1 g1 k2 k3 hJ0
      gi_wp2_with fail
      refine ⟨trivial, (callsIn_wide.2 (unhide HIX)).mono ?_⟩
      rintro e w1 ⟨rfl, rfl⟩
      gi_wp2
      refine hR.mono ?_
      rintro e W3 (⟨rfl, hJ3, _⟩ | ⟨rfl, hJx3⟩)
      · gi_wp2
        go_end0
        exact ⟨⟨_, rfl⟩, .inl (by rw [← hS]; exact hJ3)⟩
      · gi_wp2
        go_end0
        exact ⟨⟨_, rfl⟩, .inr ⟨pre ++ [S], by rw [hS]; exact List.prefix_rfl, hJx3⟩⟩
    · obtain ⟨o, ho⟩ : ∃ o : Nat, Lib.indexByte S.data.toList 10 = (o : Int) := ⟨(Lib.indexByte S.data.toList 10).toNat, by omega⟩
      have hol : o < S.size := by
        have := (List.getElem?_eq_some_iff.1 (Lib.indexByte_some ho).1).1
        rwa [Array.length_toList] at this
      rw [ho] at IX
      rw [lines_some S o ho] at hS
      have hpre : pre ++ [S.extract 0 o] ++ linesOf (S.extract (o + 1) S.size) = linesOf T := by rw [← hS]; simp
      obtain ⟨fn, tmps, assign, body, hy, hR⟩ := unhide HY pre (S.extract 0 o) wr ⟨_, hpre⟩ hJ
      have HIX := hide IX
      have HPre := hide hpre
      have hsz2 := ext_size S (o + 1) S.size (Nat.le_refl _)
      clear IX hneg hge k1 g1 k2 k3 hJ0 ho hS hpre
      have j0 : ¬ ((o : Int) < 0) := by omega
      have j0' : decide ((o : Int) < 0) = false := by simp
      have j1 : (o : Int) < (S.size : Int) := by omega
      have HSz := hide hsz2
      clear hsz2
      gi_wp2_with fail
      refine ⟨trivial, (callsIn_wide.2 (unhide HIX)).mono ?_⟩
      rintro e w1 ⟨rfl, rfl⟩
      gi_wp2
      refine hR.mono ?_
      rintro e W3 (⟨rfl, hJ3, hb3⟩ | ⟨rfl, hJx3⟩)
      · have q1 : W3.cell? ⟨b1, 0, none⟩ = some (.string S) := (World.cell?_of_block (a := ⟨b1, 0, none⟩) hb3.1).trans d1
        have q2 : W3.cell? ⟨b2, 0, none⟩ = some (.string ⟨#[10]⟩) := (World.cell?_of_block (a := ⟨b2, 0, none⟩) hb3.2.1).trans d2
        have q3 : W3.cell? ⟨b3, 0, none⟩ = some (.int .i64 0) := (World.cell?_of_block (a := ⟨b3, 0, none⟩) hb3.2.2).trans d3
        have q4 : W3.frozen? ⟨b1, 0, none⟩ = false := (World.frozen?_of_block (a := ⟨b1, 0, none⟩) hb3.1).trans e1
        clear hb3 hy hR
        gi_wp2
        go_roundw
        case rel => exact ⟨pre ++ [S.extract 0 o], S.extract (o + 1) S.size, unhide HPre, by rw [unhide HSz]; omega, World.cell?_setCell_same _ _ _ q1, by rw [World.frozen?_setCell]; exact q4, by rw [setCell_far h12]; exact q2, by rw [setCell_far h13]; exact q3, unhide HJs _ _ _ hJ3⟩
        case measure => rw [leftW_eq (World.cell?_setCell_same _ _ _ q1), leftW_eq d1, unhide HSz]; omega
      · gi_wp2
        refine bodyPost_ret (results_none rfl _ _ _) rfl ?_
        exact ⟨⟨_, rfl⟩, .inr ⟨pre ++ [S.extract 0 o], ⟨_, unhide HPre⟩, hJx3⟩⟩
set_option maxHeartbeats 1000000 in
theorem splitSeq_calls (T : ByteArray) (w : World) : Calls Tryz.prog 19 #[.string T, .string ⟨#[10]⟩] w fun e w' =>
    e = .returned (.func (.func 79) #[] #[.pointer (some ⟨w.heap.size + 1, 0, none⟩), .pointer (some ⟨w.heap.size, 0, none⟩), .pointer (some ⟨w.heap.size + 2, 0, none⟩)]) ∧
    w' = ((w.alloc (.cells #[.string T] 9)).alloc (.cells #[.string ⟨#[10]⟩] 9)).alloc (.cells #[.int .i64 0] 3) := by
  go_enter Tryz.func19, Tryz.ntmps19
  go_wp2
  go_ret
  exact ⟨rfl, rfl⟩
end Go.Proofs.YtbbjhepagkkjeaaGreatDoor
namespace Go.Proofs.YtbbjhepagkkjeaaGreatDoor
open Go Go.RowKit
def wtL (ps : List (List UInt8)) : Nat := (ps.map fun x => x.length + 1).foldr (· + ·) 0
theorem wtL_cons (x : List UInt8) (ps : List (List UInt8)) : wtL (x :: ps) = x.length + 1 + wtL ps := rfl
theorem wtL_append (a b : List (List UInt8)) : wtL (a ++ b) = wtL a + wtL b := by
  induction a with
  | nil => simp [wtL]
  | cons x a ih => rw [List.cons_append, wtL_cons, wtL_cons, ih]; omega
theorem cutF_wt (c : UInt8) (e : Bool) : ∀ (l cur : List UInt8), wtL (cutF c e cur l) ≤ cur.length + l.length + 1
  | [], cur => by
    unfold cutF
    split
    · simp [wtL]
    · simp [wtL]
  | b :: l, cur => by
    unfold cutF
    split
    · rw [wtL_append]
      have := cutF_wt c e l []
      split
      · simp [wtL] at this ⊢; omega
      · simp [wtL] at this ⊢; omega
    · have := cutF_wt c e l (cur ++ [b])
      simp at this ⊢; omega
theorem cutF_ne (c : UInt8) : ∀ (l cur : List UInt8), ∀ x ∈ cutF c false cur l, x ≠ []
  | [], cur, x, hx => by
    unfold cutF at hx
    split at hx
    · rename_i h
      simp at hx
      subst hx
      simpa using h
    · simp at hx
  | b :: l, cur, x, hx => by
    unfold cutF at hx
    split at hx
    · rw [List.mem_append] at hx
      rcases hx with hx | hx
      · split at hx
        · rename_i h
          simp at hx
          subst hx
          simpa using h
        · simp at hx
      · exact cutF_ne c l [] x hx
    · exact cutF_ne c l _ x hx
theorem wtL_mem {ps : List (List UInt8)} {x : List UInt8} (h : x ∈ ps) : x.length + 1 ≤ wtL ps := by
  induction ps with
  | nil => cases h
  | cons y r ih =>
    rw [wtL_cons]
    cases List.mem_cons.1 h with
    | inl e => subst e; omega
    | inr e => have := ih e; omega
theorem wtL_two (ps : List (List UInt8)) (h : ∀ x ∈ ps, x ≠ []) : 2 * ps.length ≤ wtL ps := by
  induction ps with
  | nil => simp
  | cons y r ih =>
    rw [wtL_cons]
    have h1 := List.length_pos_iff.2 (h y (by simp))
    have := ih (fun x hx => h x (by simp [hx]))
    simp; omega
def wt (xs : List ByteArray) : Nat := (xs.map fun x => x.size + 1).foldr (· + ·) 0
theorem wt_cons (x : ByteArray) (ps : List ByteArray) : wt (x :: ps) = x.size + 1 + wt ps := rfl
theorem wt_append (a b : List ByteArray) : wt (a ++ b) = wt a + wt b := by
  induction a with
  | nil => simp [wt]
  | cons x a ih => rw [List.cons_append, wt_cons, wt_cons, ih]; omega
theorem wt_map (ps : List (List UInt8)) : wt (ps.map fun x => ⟨x.toArray⟩) = wtL ps := by
  induction ps with
  | nil => rfl
  | cons x r ih => rw [List.map_cons, wt_cons, wtL_cons, ih]; simp [ByteArray.size]
theorem wt_lines (s : ByteArray) : wt (linesOf s) ≤ s.size + 1 := by
  unfold linesOf
  rw [wt_map]
  have := cutF_wt 10 true s.data.toList []
  have h3 : s.data.toList.length = s.size := Array.length_toList
  rw [h3, List.length_nil, Nat.zero_add] at this
  exact this
theorem wt_prefix {a b : List ByteArray} (h : a <+: b) : wt a ≤ wt b := by
  obtain ⟨t, rfl⟩ := h
  rw [wt_append]; omega
theorem words_facts (s : ByteArray) : (∀ x ∈ wordsOf s, 0 < x.size ∧ x.size ≤ s.size) ∧ 2 * (wordsOf s).length ≤ s.size + 1 := by
  have h1 := cutF_wt 32 false s.data.toList []
  have h2 := cutF_ne 32 s.data.toList []
  have h3 : s.data.toList.length = s.size := Array.length_toList
  simp only [List.length_nil, Nat.zero_add] at h1
  refine ⟨fun x hx => ?_, ?_⟩
  · unfold wordsOf cut at hx
    obtain ⟨y, hy, rfl⟩ := List.mem_map.1 hx
    have h4 := List.length_pos_iff.2 (h2 y hy)
    have h5 := wtL_mem hy
    show 0 < y.toArray.size ∧ y.toArray.size ≤ s.size
    rw [List.size_toArray]
    omega
  · have := wtL_two _ h2
    unfold wordsOf cut
    rw [List.length_map]
    omega
def tabL : List UInt8 := [116, 97, 98, 108, 101]
def rowL : List UInt8 := [114, 111, 119]
open Classical in
noncomputable def lnW (ts : List Tb) : List ByteArray → Option (List Tb)
  | [] => some ts
  | a :: r =>
    if a.toList = tabL then
      (match r with
       | [b, c] => if ColB c then some (ts ++ [⟨b, nVal c, []⟩]) else none
       | _ => none)
    else if a.toList = rowL ∧ ts ≠ [] ∧ ∀ x ∈ r, ValB x then some (addR ts (r.map valW)) else none
theorem lnW_tab {ts : List Tb} {a b c : ByteArray} (h : a.toList = tabL) (hc : ColB c) : lnW ts [a, b, c] = some (ts ++ [⟨b, nVal c, []⟩]) := by
  unfold lnW; simp only []; rw [if_pos h, if_pos hc]
theorem lnW_tabn {ts : List Tb} {a b c : ByteArray} (h : a.toList = tabL) (hc : ¬ ColB c) : lnW ts [a, b, c] = none := by
  unfold lnW; simp only []; rw [if_pos h, if_neg hc]
theorem lnW_tabl {ts : List Tb} {a : ByteArray} {r : List ByteArray} (h : a.toList = tabL) (hr : r.length ≠ 2) : lnW ts (a :: r) = none := by
  unfold lnW; simp only []; rw [if_pos h]
  match r, hr with
  | [], _ => rfl
  | [_], _ => rfl
  | [_, _], h => exact absurd rfl h
  | _ :: _ :: _ :: _, _ => rfl
theorem tab_ne_row : tabL ≠ rowL := by decide
theorem lnW_row {ts : List Tb} {a : ByteArray} {r : List ByteArray} (h : a.toList = rowL) (ht : ts ≠ []) (hr : ∀ x ∈ r, ValB x) : lnW ts (a :: r) = some (addR ts (r.map valW)) := by
  unfold lnW; simp only []; rw [if_neg (by rw [h]; exact fun e => tab_ne_row e.symm), if_pos ⟨h, ht, hr⟩]
theorem lnW_rown {ts : List Tb} {a : ByteArray} {r : List ByteArray} (h : a.toList ≠ tabL) (hn : ¬ (a.toList = rowL ∧ ts ≠ [] ∧ ∀ x ∈ r, ValB x)) : lnW ts (a :: r) = none := by
  unfold lnW; simp only []; rw [if_neg h, if_neg hn]
noncomputable def readL (ts : List Tb) : List ByteArray → Option (List Tb)
  | [] => some ts
  | x :: r => match lnW ts (wordsOf x) with
    | none => none
    | some t => readL t r
theorem readL_append : ∀ (a b : List ByteArray) (ts : List Tb), readL ts (a ++ b) = match readL ts a with | none => none | some t => readL t b
  | [], b, ts => rfl
  | x :: a, b, ts => by
    rw [List.cons_append, readL, readL]
    cases lnW ts (wordsOf x) with
    | none => rfl
    | some t => exact readL_append a b t
theorem readL_snoc (a : List ByteArray) (x : ByteArray) (ts : List Tb) : readL ts (a ++ [x]) = match readL ts a with | none => none | some t => lnW t (wordsOf x) := by
  rw [readL_append]
  cases readL ts a with
  | none => rfl
  | some t =>
    simp only [readL]
    cases lnW t (wordsOf x) <;> rfl
theorem readL_none {a b : List ByteArray} {ts : List Tb} (h : readL ts a = none) (hp : a <+: b) : readL ts b = none := by
  obtain ⟨t, rfl⟩ := hp
  rw [readL_append, h]
theorem bulk_append1 (a : List (List V2)) (x : List V2) : bulk (a ++ [x]) = bulk a + x.length := by
  induction a with
  | nil => simp [bulk]
  | cons y a ih => simp only [List.cons_append, bulk, ih]; omega
theorem bulkT_addR (ts : List Tb) (xs : List V2) : bulkT (addR ts xs) ≤ bulkT ts + 1 + xs.length := by
  cases hl : ts.getLast? with
  | none =>
    rw [List.getLast?_eq_none_iff] at hl
    subst hl
    simp [addR, bulkT]
  | some t =>
    have hne : ts ≠ [] := fun e => by rw [e] at hl; simp at hl
    have e := List.dropLast_concat_getLast hne
    rw [List.getLast?_eq_some_getLast hne] at hl
    have hl' := Option.some.inj hl
    rw [hl'] at e
    rw [← e, addR_snoc, bulkT_append, bulkT_append]
    simp [bulkT, bulk_append1]
    omega
theorem readL_bulk : ∀ (a : List ByteArray) (ts ts' : List Tb), readL ts a = some ts' → bulkT ts' + ts'.length ≤ bulkT ts + ts.length + wt a
  | [], ts, ts', h => by
    simp [readL] at h
    subst h
    simp [wt]
  | x :: a, ts, ts', h => by
    unfold readL at h
    cases hs : lnW ts (wordsOf x) with
    | none => rw [hs] at h; simp at h
    | some t =>
      rw [hs] at h
      simp only [] at h
      have ih := readL_bulk a t ts' h
      rw [wt_cons]
      have hw := words_facts x
      have key : bulkT t + t.length ≤ bulkT ts + ts.length + (x.size + 1) := by
        cases hws : wordsOf x with
        | nil =>
          rw [hws] at hs
          simp [lnW] at hs
          subst hs
          omega
        | cons b r =>
          rw [hws] at hs hw
          by_cases h1 : b.toList = tabL
          · by_cases h2 : r.length = 2
            · match r, h2 with
              | [c, d], _ =>
                by_cases h3 : ColB d
                · rw [lnW_tab h1 h3] at hs
                  obtain rfl := Option.some.inj hs
                  rw [bulkT_append]
                  have := (hw.1 c (by simp)).2
                  simp [bulkT, bulk]
                  omega
                · rw [lnW_tabn h1 h3] at hs; cases hs
            · rw [lnW_tabl h1 h2] at hs; cases hs
          · by_cases h2 : b.toList = rowL ∧ ts ≠ [] ∧ ∀ y ∈ r, ValB y
            · rw [lnW_row h2.1 h2.2.1 h2.2.2] at hs
              obtain rfl := Option.some.inj hs
              have := bulkT_addR ts (r.map valW)
              rw [addR_length]
              simp at this hw
              omega
            · rw [lnW_rown h1 h2] at hs; cases hs
      omega
end Go.Proofs.YtbbjhepagkkjeaaGreatDoor
namespace Go.Proofs.YtbbjhepagkkjeaaGreatDoor
open Go Go.RowKit
structure Chg (B : Nat) (w w' : World) : Prop where
  low : Below B w w'
  oth : KeepsOthers w w'
theorem Chg.refl (B : Nat) (w : World) : Chg B w w := ⟨Below.refl _ _, KeepsOthers.refl _⟩
theorem Chg.trans {B : Nat} {a b c : World} (h : Chg B a b) (k : Chg B b c) : Chg B a c := ⟨h.low.trans k.low, h.oth.trans k.oth⟩
theorem Chg.below {B : Nat} {w w' : World} (h : Below w.heap.size w w') (hB : B ≤ w.heap.size) : Chg B w w' :=
  ⟨h.mono hB, h.size, fun k _ hk _ => (h.block k (Array.getElem?_eq_some_iff.1 hk).1).trans hk⟩
theorem Chg.set {B : Nat} (w : World) {g o : Nat} (hg : B ≤ g) (v : Value) : Chg B w (w.setCell ⟨g, o, none⟩ v) :=
  ⟨(Below.refl B w).setCell (p := ⟨g, o, none⟩) hg v, KeepsOthers.setCell _ _ _⟩
theorem Chg.grown {B : Nat} {w w' : World} {row : Option Nat} (hg : w.grownBy w' row) (hB : B ≤ w.heap.size) (hr : ∀ b, row = some b → B ≤ b) (hc : ∀ b o, row = some b → w.heap[b]? = some o → o.isCells = true) : Chg B w w' :=
  ⟨⟨hg.os, hg.tape, hg.output, hg.size, fun k hk => hg.block k (by omega) (fun e => by have := hr k e.symm; omega)⟩, KeepsOthers.of_grownBy hg hc⟩
theorem ownsRow_cells {w : World} {B e size n : Nat} {v : Value} {xs : List Value} (h : w.ownsRow B e size v n xs) : ∀ b o, v.ownBlock = some b → w.heap[b]? = some o → o.isCells = true := fun b o hb ho => by
  rcases h.2 with ⟨h1, _⟩ | ⟨g, cap, cur, h1, _, h3, _⟩
  · rw [h1] at hb; simp [Value.ownBlock] at hb
  · rw [h1] at hb
    simp [Value.ownBlock] at hb
    subst hb
    rw [h3] at ho
    cases ho
    rfl
def WordsAt (w : World) (A off : Nat) (ws : List ByteArray) : Prop := A < w.heap.size ∧ ∀ i x, ws[i]? = some x → w.cell? ⟨A, off + i, none⟩ = some (.string x)
theorem WordsAt.of {w w1 : World} {A off : Nat} {ws : List ByteArray} (h : WordsAt w A off ws) (hb : Below w.heap.size w w1) : WordsAt w1 A off ws :=
  ⟨Nat.lt_of_lt_of_le h.1 hb.size, fun i x hx => (hb.cell (p := ⟨A, off + i, none⟩) h.1).trans (h.2 i x hx)⟩
set_option maxHeartbeats 2000000 in
theorem readTable_len (v : Value) (a : Option Addr) (n c : Nat) (hv : ∃ a n c, v = .slice a n c) (w : World) (hn : n ≠ 2) : Calls Tryz.prog 47 #[v, .slice a n c] w fun e w' => e = .returned (.tuple #[.slice none 0 0, .bool false]) ∧ w' = w := by
  obtain ⟨va, vn, vc, rfl⟩ := hv
  have j : ((n : Int) == 2) = false := by simp; omega
  have j' : ((n : Int) != 2) = true := by simp [bne, j]
  go_enter Tryz.func47, Tryz.ntmps47
  go_wp2
  go_returns
  exact ⟨rfl, rfl⟩
set_option maxRecDepth 100000 in
set_option maxHeartbeats 4000000 in
theorem readTable_two (v : Value) (A off c B : Nat) (x y : ByteArray) (V : Int) (ok : Bool) (lab : Lt) (cs : List Value) (ts : List Tb) (w : World) (hB : B ≤ w.heap.size) (hW : WordsAt w A off [x, y]) (hT : TabG w lab B v cs ts) (hx : x.size ≤ 1048576) (hl : ts.length ≤ 1048576)
    (RC : ∀ W, Calls Tryz.prog 82 #[.string y] W fun e w' => e = .returned (.tuple #[.int .i64 V, .bool ok]) ∧ Below W.heap.size W w') :
    Calls Tryz.prog 47 #[v, .slice (some ⟨A, off, none⟩) 2 c] w fun e w' => ∃ v' cs', e = .returned (.tuple #[v', .bool ok]) ∧ TabG w' lab B v' cs' (ts ++ [⟨x, V, []⟩]) ∧ Chg B w w' := by
  have d0 : w.cell? ⟨A, off, none⟩ = some (.string x) := hW.2 0 x rfl
  have d1 : w.cell? ⟨A, off + 1, none⟩ = some (.string y) := hW.2 1 y rfl
  have hA := hW.1
  have HT := hide hT; have HRC := hide RC
  have HCl := hide (fun W => clone_calls x W hx)
  obtain ⟨i, hi, hz⟩ := Option.map_eq_some_iff.1 (show (Tryz.prog.info? 32).map (fun i => (i.zero, i.size, i.bytes)) = some (some (.agg #[.string ⟨#[]⟩, .int .i64 0, .slice none 0 0]), 3, 48) by kernel_rfl)
  simp only [Prod.mk.injEq] at hz
  obtain ⟨hz0, hz1, hz2⟩ := hz
  obtain ⟨va, vc, hv⟩ := hT.slice
  subst hv
  clear hT RC hW
  go_enter Tryz.func47, Tryz.ntmps47
  go_wp2_with fail
  refine (unhide HRC _).mono ?_; rintro e w1 ⟨rfl, hb1⟩
  have e0 : w1.cell? ⟨A, off, none⟩ = some (.string x) := (hb1.cell (p := ⟨A, off, none⟩) hA).trans d0
  have HB1 := hide hb1
  have hs1 := hb1.size
  clear hb1
  go_wp2_with fail
  refine (unhide HCl _).mono ?_; rintro e w2 ⟨rfl, hb2⟩
  have HB2 := hide (bT (unhide HB1) hb2)
  have hs2 := hb2.size
  have HT3 := hide (((unhide HT).of (unhide HB2)).of (bA (Below.refl w2.heap.size w2) (.cells #[.string x, .int .i64 V, .slice none 0 0] 32)))
  clear hb2 HT HB1 HRC HCl
  go_wp2_with (at_builtin; refine wpList_append_lies _ rfl (.tmp 18) (.tmp 25) 24 rfl B 32 i _ 3 48 Tryz.underlying24 hi hz0 hz1 hz2 rfl (by decide) (.slice va ts.length vc) ts.length cs rfl (unhide HT3).own ⟨w2.heap.size, 0, none⟩ 1 1 [.string x, .int .i64 V, .slice none 0 0] rfl rfl (World.news_of_block (cs := #[.string x, .int .i64 V, .slice none 0 0]) (MapKept.heap_alloc w2 _).1) (by intro u hu; simp at hu; rcases hu with rfl | rfl | rfl <;> rfl) (by decide) (by unfold maxLen; omega) (by omega) (by simp; omega) _ rfl ?_; intro g2 cap2 w4 hown2 hgrow hat hlt2)
  have HN := hide ((unhide HT3).push (lab' := lab) (N := x) (C := V) (fun _ _ => rfl) (fun b e => Or.inl e) (World.ownsRow_nil _ B _ 1) (fun G e => by simp [Value.ownBlock] at e) hown2 hgrow hat)
  have HC := hide ((Chg.below (bA (unhide HB2) (.cells #[.string x, .int .i64 V, .slice none 0 0] 32)) hB).trans (Chg.grown hgrow (by simp; omega) (fun b e => ((unhide HT3).blk b e).1) (ownsRow_cells (unhide HT3).own)))
  clear hown2 hgrow hat HT3 HB2
  go_wp2
  go_returns
  exact ⟨_, _, rfl, unhide HN, unhide HC⟩
end Go.Proofs.YtbbjhepagkkjeaaGreatDoor
