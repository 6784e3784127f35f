import Derived.Test.YteebidljiemegaaDoorRdRange
import Derived.Test.YteebidljiemegaaDoorRdMath
import Derived.Test.YteebidljiemegaaDoorRdShelf
import Derived.Test.YteebidljiemegaaDoorTabG
import Derived.Test.YteebidljiemegaaDoorRdNum
import Derived.Lib.IndexLaws
import Derived.Shelf.Abstract
import Derived.Shelf.RegionOpen
import Derived.WalkKit
import Derived.OwnWalkIn
import Derived.TacticsInMore
import Derived.LoopNIn
import Derived.LoopIn
import Derived.RangeFuncCalls
namespace Go.Proofs.YteebidljiemegaaDoor
open Go Go.RowKit Go.Shelf
attribute [local go_sem] Oper.semAt_some
theorem cut_none (l : List UInt8) (c : UInt8) (h : Lib.indexByte l c = -1) : cut c true l = [l] := by
  have hno : ∀ b ∈ l, b ≠ c := fun b hb e => by
    subst e
    obtain ⟨k, hk⟩ := List.getElem?_of_mem hb
    exact Lib.indexByte_none h k hk
  have := cutF_run c true l [] [] hno
  rw [List.append_nil] at this
  unfold cut
  rw [this, cutF_end]
  simp
theorem cut_some (l : List UInt8) (c : UInt8) (o : Nat) (h : Lib.indexByte l c = o) : cut c true l = l.take o :: cut c true (l.drop (o + 1)) := by
  obtain ⟨h1, h2⟩ := Lib.indexByte_some h
  have hlt := (List.getElem?_eq_some_iff.1 h1).1
  have hl : l = l.take o ++ c :: l.drop (o + 1) := by
    have e := List.getElem?_eq_some_iff.1 h1
    conv => lhs; rw [← List.take_append_drop o l, List.drop_eq_getElem_cons hlt, e.2]
  have hno : ∀ b ∈ l.take o, b ≠ c := fun b hb e => by
    subst e
    obtain ⟨k, hk⟩ := List.getElem?_of_mem hb
    rw [List.getElem?_take] at hk
    split at hk
    · rename_i hko
      exact h2 k hko hk
    · cases hk
  unfold cut
  conv => lhs; rw [hl]
  rw [cutF_run c true _ _ _ hno, cutF_hit]
  simp
def linesOf (s : ByteArray) : List ByteArray := (cut 10 true s.data.toList).map fun x => ⟨x.toArray⟩
theorem lines_none (s : ByteArray) (h : Lib.indexByte s.data.toList 10 = -1) : linesOf s = [s] := by
  unfold linesOf
  rw [cut_none _ _ h]
  rfl
theorem lines_some (s : ByteArray) (o : Nat) (h : Lib.indexByte s.data.toList 10 = o) : linesOf s = s.extract 0 o :: linesOf (s.extract (o + 1) s.size) := by
  unfold linesOf
  rw [cut_some _ _ _ h]
  have e1 : s.extract 0 o = ⟨(s.data.toList.take o).toArray⟩ := by
    have h1 := ext_list s 0 o
    rw [Go.ByteArray.toList_eq, Go.ByteArray.toList_eq, List.drop_zero, Nat.sub_zero] at h1
    apply ByteArray.ext
    apply Array.toList_inj.1
    rw [h1]
  have e2 : (s.extract (o + 1) s.size).data.toList = s.data.toList.drop (o + 1) := by
    have h1 := ext_list s (o + 1) s.size
    rw [Go.ByteArray.toList_eq, Go.ByteArray.toList_eq] at h1
    rw [h1]
    apply List.take_of_length_le
    rw [List.length_drop, Array.length_toList]
    exact Nat.le_refl _
  rw [e2, e1]
  rfl
def leftW (b : Nat) (W : World) : Nat := match W.cell? ⟨b, 0, none⟩ with | some (.string s) => s.size | _ => 0
theorem leftW_eq {b : Nat} {W : World} {s : ByteArray} (h : W.cell? ⟨b, 0, none⟩ = some (.string s)) : leftW b W = s.size := by unfold leftW; rw [h]
set_option maxRecDepth 100000 in
set_option maxHeartbeats 4000000 in
theorem split_iter (n b1 b2 b3 : Nat) (T : ByteArray) (w : World) (hT : T.size ≤ 1048576) (h12 : b1 ≠ b2) (h13 : b1 ≠ b3) (c1 : w.cell? ⟨b1, 0, none⟩ = some (.string T)) (f1 : w.frozen? ⟨b1, 0, none⟩ = false) (c2 : w.cell? ⟨b2, 0, none⟩ = some (.string ⟨#[10]⟩)) (c3 : w.cell? ⟨b3, 0, none⟩ = some (.int .i64 0)) (hn : 1 ≤ n) :
    Iter Fence.wide n Tryd.prog 43 #[.pointer (some ⟨b2, 0, none⟩), .pointer (some ⟨b1, 0, none⟩), .pointer (some ⟨b3, 0, none⟩)] b1 b2 b3 (linesOf T) w := fun l J Jx W hB hJs hY hJ0 => by
  have k1 : W.cell? ⟨b1, 0, none⟩ = some (.string T) := (World.cell?_of_block (a := ⟨b1, 0, none⟩) hB.1).trans c1
  have g1 : W.frozen? ⟨b1, 0, none⟩ = false := (World.frozen?_of_block (a := ⟨b1, 0, none⟩) hB.1).trans f1
  have k2 : W.cell? ⟨b2, 0, none⟩ = some (.string ⟨#[10]⟩) := (World.cell?_of_block (a := ⟨b2, 0, none⟩) hB.2.1).trans c2
  have k3 : W.cell? ⟨b3, 0, none⟩ = some (.int .i64 0) := (World.cell?_of_block (a := ⟨b3, 0, none⟩) hB.2.2).trans c3
  have HY := hide hY; have HJs := hide hJs
  clear hB c1 f1 c2 c3 hY hJs
  refine callsIn_of_wp Tryd.func43 rfl trivial ?_ rfl
  simp only [Tryd.ntmps43, List.size_toArray, List.length_cons, List.length_nil, Nat.reduceAdd, Nat.reduceSub, Array.replicate_succ, Array.replicate_zero, List.push_toArray, List.append_toArray, List.nil_append, List.cons_append]
  gi_wp2
  gi_loopw [7] (fun _ wr => ∃ (pre : List ByteArray) (S : ByteArray), pre ++ linesOf S = linesOf T ∧ S.size ≤ 1048576 ∧ wr.cell? ⟨b1, 0, none⟩ = some (.string S) ∧ wr.frozen? ⟨b1, 0, none⟩ = false ∧ wr.cell? ⟨b2, 0, none⟩ = some (.string ⟨#[10]⟩) ∧ wr.cell? ⟨b3, 0, none⟩ = some (.int .i64 0) ∧ J pre wr) (fun _ wr => leftW b1 wr)
  case atStart => exact ⟨[], T, rfl, hT, k1, g1, k2, k3, hJ0⟩
  case round =>
    obtain ⟨pre, S, hS, hSz, d1, e1, d2, d3, hJ⟩ := hrel
    have IX := sh_strings_Index_one S 10 wr
    have hge := Lib.indexByte_ge S.data.toList 10
    by_cases hneg : Lib.indexByte S.data.toList 10 = -1
    · rw [hneg] at IX
      rw [lines_none S hneg] at hS
      obtain ⟨fn, tmps, assign, body, hy, hR⟩ := unhide HY pre S wr ⟨[], by rw [List.append_nil]; exact hS⟩ hJ
      have HIX := hide IX
      clear IX hneg hge k1 g1 k2 k3 hJ0
      gi_wp2_with fail
      refine ⟨trivial, (callsIn_wide.2 (unhide HIX)).mono ?_⟩
      rintro e w1 ⟨rfl, rfl⟩
      gi_wp2
      refine hR.mono ?_
      rintro e W3 (⟨rfl, hJ3, _⟩ | ⟨rfl, hJx3⟩)
      · gi_wp2
        go_end0
        exact ⟨⟨_, rfl⟩, .inl (by rw [← hS]; exact hJ3)⟩
      · gi_wp2
        go_end0
        exact ⟨⟨_, rfl⟩, .inr ⟨pre ++ [S], by rw [hS]; exact List.prefix_rfl, hJx3⟩⟩
    · obtain ⟨o, ho⟩ : ∃ o : Nat, Lib.indexByte S.data.toList 10 = (o : Int) := ⟨(Lib.indexByte S.data.toList 10).toNat, by omega⟩
      have hol : o < S.size := by
        have := (List.getElem?_eq_some_iff.1 (Lib.indexByte_some ho).1).1
        rwa [Array.length_toList] at this
      rw [ho] at IX
      rw [lines_some S o ho] at hS
      have hpre : pre ++ [S.extract 0 o] ++ linesOf (S.extract (o + 1) S.size) = linesOf T := by rw [← hS]; simp
      obtain ⟨fn, tmps, assign, body, hy, hR⟩ := unhide HY pre (S.extract 0 o) wr ⟨_, hpre⟩ hJ
      have HIX := hide IX
      have HPre := hide hpre
      have hsz2 := ext_size S (o + 1) S.size (Nat.le_refl _)
      clear IX hneg hge k1 g1 k2 k3 hJ0 ho hS hpre
      have j0 : ¬ ((o : Int) < 0) := by omega
      have j0' : decide ((o : Int) < 0) = false := by simp
      have j1 : (o : Int) < (S.size : Int) := by omega
      have HSz := hide hsz2
      clear hsz2
      gi_wp2_with fail
      refine ⟨trivial, (callsIn_wide.2 (unhide HIX)).mono ?_⟩
      rintro e w1 ⟨rfl, rfl⟩
      gi_wp2
      refine hR.mono ?_
      rintro e W3 (⟨rfl, hJ3, hb3⟩ | ⟨rfl, hJx3⟩)
      · have q1 : W3.cell? ⟨b1, 0, none⟩ = some (.string S) := (World.cell?_of_block (a := ⟨b1, 0, none⟩) hb3.1).trans d1
        have q2 : W3.cell? ⟨b2, 0, none⟩ = some (.string ⟨#[10]⟩) := (World.cell?_of_block (a := ⟨b2, 0, none⟩) hb3.2.1).trans d2
        have q3 : W3.cell? ⟨b3, 0, none⟩ = some (.int .i64 0) := (World.cell?_of_block (a := ⟨b3, 0, none⟩) hb3.2.2).trans d3
        have q4 : W3.frozen? ⟨b1, 0, none⟩ = false := (World.frozen?_of_block (a := ⟨b1, 0, none⟩) hb3.1).trans e1
        clear hb3 hy hR
        gi_wp2
        go_roundw
        case rel => exact ⟨pre ++ [S.extract 0 o], S.extract (o + 1) S.size, unhide HPre, by rw [unhide HSz]; omega, World.cell?_setCell_same _ _ _ q1, by rw [World.frozen?_setCell]; exact q4, by rw [setCell_far h12]; exact q2, by rw [setCell_far h13]; exact q3, unhide HJs _ _ _ hJ3⟩
        case measure => rw [leftW_eq (World.cell?_setCell_same _ _ _ q1), leftW_eq d1, unhide HSz]; omega
      · gi_wp2
        refine bodyPost_ret (results_none rfl _ _ _) rfl ?_
        exact ⟨⟨_, rfl⟩, .inr ⟨pre ++ [S.extract 0 o], ⟨_, unhide HPre⟩, hJx3⟩⟩
set_option maxHeartbeats 1000000 in
theorem splitSeq_calls (T : ByteArray) (w : World) : Calls Tryd.prog 15 #[.string T, .string ⟨#[10]⟩] w fun e w' =>
    e = .returned (.func (.func 43) #[] #[.pointer (some ⟨w.heap.size + 1, 0, none⟩), .pointer (some ⟨w.heap.size, 0, none⟩), .pointer (some ⟨w.heap.size + 2, 0, none⟩)]) ∧
    w' = ((w.alloc (.cells #[.string T] 9)).alloc (.cells #[.string ⟨#[10]⟩] 9)).alloc (.cells #[.int .i64 0] 3) := by
  go_enter Tryd.func15, Tryd.ntmps15
  go_wp2
  go_ret
  exact ⟨rfl, rfl⟩
end Go.Proofs.YteebidljiemegaaDoor
