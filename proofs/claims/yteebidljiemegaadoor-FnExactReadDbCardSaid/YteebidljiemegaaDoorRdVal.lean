import Derived.Test.YteebidljiemegaaDoorRdImplNum
import Derived.Test.YteebidljiemegaaDoorTabG
namespace Go.Proofs.YteebidljiemegaaDoor
open Go Go.RowKit
theorem alloc_cell (w : World) (x : Obj) (b k : Nat) (h : b < w.heap.size) : (w.alloc x).cell? ⟨b, k, none⟩ = w.cell? ⟨b, k, none⟩ := (bA (Below.refl w.heap.size w) x).cell (p := ⟨b, k, none⟩) h
theorem alloc_frz (w : World) (x : Obj) (b k : Nat) (h : b < w.heap.size) : (w.alloc x).frozen? ⟨b, k, none⟩ = w.frozen? ⟨b, k, none⟩ := (bA (Below.refl w.heap.size w) x).frozen (p := ⟨b, k, none⟩) h
def IsNul (s : ByteArray) : Prop := s.toList = [78, 85, 76, 76]
theorem isNul_beq {s : ByteArray} (h : IsNul s) : (s.toList == [78, 85, 76, 76]) = true := by rw [h]; rfl
theorem notNul_beq {s : ByteArray} (h : ¬ IsNul s) : (s.toList == [78, 85, 76, 76]) = false := by
  cases e : (s.toList == [78, 85, 76, 76])
  · rfl
  · exact absurd (eq_of_beq e) h
def ValB (s : ByteArray) : Prop := IsNul s ∨ (NumB s ∧ s.size - frn s ≤ 18)
open Classical in
noncomputable def valW (s : ByteArray) : V2 := if IsNul s then (true, 0) else (false, nVal s)
theorem valW_null {s : ByteArray} (h : IsNul s) : valW s = (true, 0) := by unfold valW; rw [if_pos h]
theorem valW_num {s : ByteArray} (h : ¬ IsNul s) : valW s = (false, nVal s) := by unfold valW; rw [if_neg h]
set_option maxHeartbeats 2000000 in
theorem readVal_yes (s : ByteArray) (w : World) (hs : s.size ≤ 1048576) (h : ValB s) : Calls Tryd.prog 48 #[.string s] w fun e w' => e = .returned (.tuple #[.agg #[.bool (valW s).1, .int .i64 (valW s).2], .bool true]) ∧ Below w.heap.size w w' := by
  by_cases hN : IsNul s
  · rw [valW_null hN]
    have hN' := isNul_beq hN
    clear h hN
    go_enter Tryd.func48, Tryd.ntmps48
    go_wp2
    refine bodyPost_ret (v := .tuple #[.agg #[.bool true, .int .i64 0], .bool true]) (by simp [results, Tryd.results48, go_sem]) rfl ⟨rfl, ?_⟩
    (repeat (refine Below.setCell ?_ (by dsimp only; omega) _))
    exact bA (Below.refl _ _) _
  · rw [valW_num hN]
    have hN' := notNul_beq hN
    obtain ⟨h, h18⟩ := h.resolve_left hN
    obtain ⟨d1, d2, d3⟩ := (numB_dgs s).1 ⟨h, h18⟩
    have h0 : 0 < s.size := by omega
    have HS := hide (fun W => scanNumber_yes s W h0 hs d1 d2)
    rw [hd_all s d3] at HS
    generalize nVal s = V at *
    clear h h18 d1 d2 d3 hN
    go_enter Tryd.func48, Tryd.ntmps48
    go_wp2_with fail
    refine (unhide HS _).mono ?_; rintro e w1 ⟨rfl, hb1⟩
    obtain ⟨hc, hf⟩ := bcell hb1
    have hsz : w.heap.size + 1 ≤ w1.heap.size := by have := hb1.size; simpa using this
    have HB1 := hide (bT (bA (Below.refl w.heap.size w) _) hb1)
    have hlt : w.heap.size < w1.heap.size := by omega
    have c0 : w1.cell? ⟨w.heap.size, 0, none⟩ = some (.bool false) := (hc _ 0 (by simp)).trans (by simp [go_sem])
    have c1 : w1.cell? ⟨w.heap.size, 1, none⟩ = some (.int .i64 0) := (hc _ 1 (by simp)).trans (by simp [go_sem])
    have f0 : w1.frozen? ⟨w.heap.size, 0, none⟩ = false := (hf _ 0 (by simp)).trans (by simp [go_sem])
    have f1 : w1.frozen? ⟨w.heap.size, 1, none⟩ = false := (hf _ 1 (by simp)).trans (by simp [go_sem])
    have k0 := (alloc_cell w1 (.cells #[.int .i64 3, .string s, .int .i64 V] 81) w.heap.size 0 hlt).trans c0
    have k1 := (alloc_cell w1 (.cells #[.int .i64 3, .string s, .int .i64 V] 81) w.heap.size 1 hlt).trans c1
    have m0 := (alloc_frz w1 (.cells #[.int .i64 3, .string s, .int .i64 V] 81) w.heap.size 0 hlt).trans f0
    have m1 := (alloc_frz w1 (.cells #[.int .i64 3, .string s, .int .i64 V] 81) w.heap.size 1 hlt).trans f1
    have e0 : (((w1.setCell ⟨w.heap.size, 0, none⟩ (.bool false)).setCell ⟨w.heap.size, 1, none⟩ (.int .i64 V)).alloc (.cells #[.int .i64 3, .string s, .int .i64 V] 81)).cell? ⟨w.heap.size, 0, none⟩ = some (.bool false) :=
      (alloc_cell _ (.cells #[.int .i64 3, .string s, .int .i64 V] 81) w.heap.size 0 (by simpa using hlt)).trans (by rw [setCell_other (by omega)]; exact World.cell?_setCell_same _ _ _ c0)
    have e1 : (((w1.setCell ⟨w.heap.size, 0, none⟩ (.bool false)).setCell ⟨w.heap.size, 1, none⟩ (.int .i64 V)).alloc (.cells #[.int .i64 3, .string s, .int .i64 V] 81)).cell? ⟨w.heap.size, 1, none⟩ = some (.int .i64 V) :=
      (alloc_cell _ (.cells #[.int .i64 3, .string s, .int .i64 V] 81) w.heap.size 1 (by simpa using hlt)).trans (World.cell?_setCell_same _ _ _ (by rw [setCell_other (by omega)]; exact c1))
    clear hb1 hc hf
    go_wp2
    go_region
    all_goals go_wp2
    all_goals (refine bodyPost_ret (v := .tuple #[.agg #[.bool false, .int .i64 V], .bool true]) (by simp [results, Tryd.results48, go_sem, e0, e1]) rfl ⟨rfl, ?_⟩)
    all_goals ((repeat (first | refine Below.setCell ?_ (by dsimp only; omega) _ | refine bA ?_ _ | refine Below.drew ?_)); exact unhide HB1)
set_option maxHeartbeats 4000000 in
theorem readVal_no (s : ByteArray) (w : World) (hs : s.size ≤ 1048576) (h0 : 0 < s.size) (h : ¬ ValB s) : Calls Tryd.prog 48 #[.string s] w fun e w' => (∃ v : V2, e = .returned (.tuple #[.agg #[.bool v.1, .int .i64 v.2], .bool false])) ∧ Below w.heap.size w w' := by
  have hN : ¬ IsNul s := fun e => h (Or.inl e)
  have hN' := notNul_beq hN
  by_cases hdd : 1 ≤ dgs s ∧ dgs s ≤ 18
  · have HS := hide (fun W => scanNumber_yes s W h0 hs hdd.1 hdd.2)
    obtain ⟨q1, q2, q3, q4⟩ := hd_facts s hdd.1 hdd.2
    have hne : (hd s).size ≠ s.size := fun e => h (Or.inr ((numB_dgs s).2 ⟨hdd.1, hdd.2, by omega⟩))
    have hne' : (((hd s).size : Int) == (s.size : Int)) = false := by simp; omega
    generalize hd s = T at *
    generalize nVal T = V at *
    clear h q1 q2 q3 q4 hN hne
    go_enter Tryd.func48, Tryd.ntmps48
    go_wp2_with fail
    refine (unhide HS _).mono ?_; rintro e w1 ⟨rfl, hb1⟩
    obtain ⟨hc, hf⟩ := bcell hb1
    have hsz : w.heap.size + 1 ≤ w1.heap.size := by have := hb1.size; simpa using this
    have HB1 := hide (bT (bA (Below.refl w.heap.size w) _) hb1)
    have hlt : w.heap.size < w1.heap.size := by omega
    have c0 : w1.cell? ⟨w.heap.size, 0, none⟩ = some (.bool false) := (hc _ 0 (by simp)).trans (by simp [go_sem])
    have c1 : w1.cell? ⟨w.heap.size, 1, none⟩ = some (.int .i64 0) := (hc _ 1 (by simp)).trans (by simp [go_sem])
    have f0 : w1.frozen? ⟨w.heap.size, 0, none⟩ = false := (hf _ 0 (by simp)).trans (by simp [go_sem])
    have f1 : w1.frozen? ⟨w.heap.size, 1, none⟩ = false := (hf _ 1 (by simp)).trans (by simp [go_sem])
    have k0 := (alloc_cell w1 (.cells #[.int .i64 3, .string T, .int .i64 V] 81) w.heap.size 0 hlt).trans c0
    have k1 := (alloc_cell w1 (.cells #[.int .i64 3, .string T, .int .i64 V] 81) w.heap.size 1 hlt).trans c1
    have m0 := (alloc_frz w1 (.cells #[.int .i64 3, .string T, .int .i64 V] 81) w.heap.size 0 hlt).trans f0
    have m1 := (alloc_frz w1 (.cells #[.int .i64 3, .string T, .int .i64 V] 81) w.heap.size 1 hlt).trans f1
    have e0 : (((w1.setCell ⟨w.heap.size, 0, none⟩ (.bool false)).setCell ⟨w.heap.size, 1, none⟩ (.int .i64 V)).alloc (.cells #[.int .i64 3, .string T, .int .i64 V] 81)).cell? ⟨w.heap.size, 0, none⟩ = some (.bool false) :=
      (alloc_cell _ (.cells #[.int .i64 3, .string T, .int .i64 V] 81) w.heap.size 0 (by simpa using hlt)).trans (by rw [setCell_other (by omega)]; exact World.cell?_setCell_same _ _ _ c0)
    have e1 : (((w1.setCell ⟨w.heap.size, 0, none⟩ (.bool false)).setCell ⟨w.heap.size, 1, none⟩ (.int .i64 V)).alloc (.cells #[.int .i64 3, .string T, .int .i64 V] 81)).cell? ⟨w.heap.size, 1, none⟩ = some (.int .i64 V) :=
      (alloc_cell _ (.cells #[.int .i64 3, .string T, .int .i64 V] 81) w.heap.size 1 (by simpa using hlt)).trans (World.cell?_setCell_same _ _ _ (by rw [setCell_other (by omega)]; exact c1))
    clear hb1 hc hf
    go_wp2
    go_region
    all_goals go_wp2
    all_goals (refine bodyPost_ret (v := .tuple #[.agg #[.bool false, .int .i64 V], .bool false]) (by simp [results, Tryd.results48, go_sem, e0, e1]) rfl ⟨⟨(false, V), rfl⟩, ?_⟩)
    all_goals ((repeat (first | refine Below.setCell ?_ (by dsimp only; omega) _ | refine bA ?_ _ | refine Below.drew ?_)); exact unhide HB1)
  · have HS := hide (fun W => scanNumber_no s W h0 hs (by omega))
    clear h hN hdd
    go_enter Tryd.func48, Tryd.ntmps48
    go_wp2_with fail
    refine (unhide HS _).mono ?_; rintro e w1 ⟨rfl, hb1⟩
    obtain ⟨hc, hf⟩ := bcell hb1
    have hsz : w.heap.size + 1 ≤ w1.heap.size := by have := hb1.size; simpa using this
    have HB1 := hide (bT (bA (Below.refl w.heap.size w) _) hb1)
    have hlt : w.heap.size < w1.heap.size := by omega
    have c0 : w1.cell? ⟨w.heap.size, 0, none⟩ = some (.bool false) := (hc _ 0 (by simp)).trans (by simp [go_sem])
    have c1 : w1.cell? ⟨w.heap.size, 1, none⟩ = some (.int .i64 0) := (hc _ 1 (by simp)).trans (by simp [go_sem])
    have f0 : w1.frozen? ⟨w.heap.size, 0, none⟩ = false := (hf _ 0 (by simp)).trans (by simp [go_sem])
    have f1 : w1.frozen? ⟨w.heap.size, 1, none⟩ = false := (hf _ 1 (by simp)).trans (by simp [go_sem])
    have k0 := (alloc_cell w1 (.cells #[.int .i64 0, .string ⟨#[]⟩, .int .i64 0] 81) w.heap.size 0 hlt).trans c0
    have k1 := (alloc_cell w1 (.cells #[.int .i64 0, .string ⟨#[]⟩, .int .i64 0] 81) w.heap.size 1 hlt).trans c1
    have m0 := (alloc_frz w1 (.cells #[.int .i64 0, .string ⟨#[]⟩, .int .i64 0] 81) w.heap.size 0 hlt).trans f0
    have m1 := (alloc_frz w1 (.cells #[.int .i64 0, .string ⟨#[]⟩, .int .i64 0] 81) w.heap.size 1 hlt).trans f1
    have e0 : (((w1.setCell ⟨w.heap.size, 0, none⟩ (.bool false)).setCell ⟨w.heap.size, 1, none⟩ (.int .i64 0)).alloc (.cells #[.int .i64 0, .string ⟨#[]⟩, .int .i64 0] 81)).cell? ⟨w.heap.size, 0, none⟩ = some (.bool false) :=
      (alloc_cell _ (.cells #[.int .i64 0, .string ⟨#[]⟩, .int .i64 0] 81) w.heap.size 0 (by simpa using hlt)).trans (by rw [setCell_other (by omega)]; exact World.cell?_setCell_same _ _ _ c0)
    have e1 : (((w1.setCell ⟨w.heap.size, 0, none⟩ (.bool false)).setCell ⟨w.heap.size, 1, none⟩ (.int .i64 0)).alloc (.cells #[.int .i64 0, .string ⟨#[]⟩, .int .i64 0] 81)).cell? ⟨w.heap.size, 1, none⟩ = some (.int .i64 0) :=
      (alloc_cell _ (.cells #[.int .i64 0, .string ⟨#[]⟩, .int .i64 0] 81) w.heap.size 1 (by simpa using hlt)).trans (World.cell?_setCell_same _ _ _ (by rw [setCell_other (by omega)]; exact c1))
    clear hb1 hc hf
    go_wp2
    go_region
    all_goals go_wp2
    all_goals (refine bodyPost_ret (v := .tuple #[.agg #[.bool false, .int .i64 0], .bool false]) (by simp [results, Tryd.results48, go_sem, e0, e1]) rfl ⟨⟨(false, 0), rfl⟩, ?_⟩)
    all_goals ((repeat (first | refine Below.setCell ?_ (by dsimp only; omega) _ | refine bA ?_ _ | refine Below.drew ?_)); exact unhide HB1)
end Go.Proofs.YteebidljiemegaaDoor
