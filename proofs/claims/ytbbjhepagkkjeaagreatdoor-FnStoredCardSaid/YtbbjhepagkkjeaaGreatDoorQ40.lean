import Derived.Test.YtbbjhepagkkjeaaGreatDoorRdNumFns
import Derived.Test.YtbbjhepagkkjeaaGreatDoorQ11
import Derived.Test.YtbbjhepagkkjeaaGreatDoorRdShelf
import Derived.Handy
import Derived.Test.YtbbjhepagkkjeaaGreatDoorQ9
namespace Go.Proofs.YtbbjhepagkkjeaaGreatDoor
open Go Go.RowKit
theorem dsp_eq (s : ByteArray) (k : Nat) (h1 : ∀ i, i < k → digit (byt s i) = true) (h2 : k ≤ s.size) (h3 : k = s.size ∨ digit (byt s k) = false) : dsp s = k :=
  takeWhile_len _ 0 s.toList k h1 (by rw [size_toList]; exact h2) (by rw [size_toList]; exact h3)
theorem takeWhile_in {α : Type} (p : α → Bool) (d : α) : ∀ (l : List α) (i : Nat), i < (l.takeWhile p).length → p (l.getD i d) = true
  | [], i, hi => by simp at hi
  | x :: l, i, hi => by
    cases hx : p x
    · simp [List.takeWhile, hx] at hi
    · cases i with
      | zero => simpa using hx
      | succ i => simpa using takeWhile_in p d l i (by simpa [List.takeWhile, hx] using hi)
theorem dsp_in (s : ByteArray) (i : Nat) (h : i < dsp s) : digit (byt s i) = true := takeWhile_in dg 0 s.toList i h
theorem dsp_full (s : ByteArray) (h : ∀ i, i < s.size → digit (byt s i) = true) : dsp s = s.size := dsp_eq s s.size h (Nat.le_refl _) (Or.inl rfl)
set_option maxHeartbeats 1000000 in
theorem spanDig_calls (s : ByteArray) (w : World) (hs : s.size ≤ 1048576) : Calls Tryz.prog 86 #[.string s, .func (Fn.func 108) #[] #[]] w fun e w' => e = .returned (.int .i64 (dsp s)) ∧ w' = w := by
  go_enter Tryz.func86, Tryz.ntmps86
  go_wp2
  go_loopw [5] (fun i wr => ∃ k : Nat, k ≤ s.size ∧ i = .int .i64 k ∧ (∀ j, j < k → digit (byt s j) = true) ∧ wr = w) (fun i _ => s.size - (intOf i).toNat)
  case atStart => exact ⟨0, Nat.zero_le _, rfl, fun i hi => by omega, rfl⟩
  case round =>
    obtain ⟨k, hk, rfl, hw, rfl⟩ := hrel
    have HW := hide hw
    clear hw
    by_cases hlt : k < s.size
    · have eb := byt_eq s k hlt
      have PC := fun w => isDigit_calls (byt s k) w
      have j1 : (k : Int) < (s.size : Int) := by omega
      have hnext : digit (byt s k) = true → ∀ j, j < k + 1 → digit (byt s j) = true := fun h j hj => by
        by_cases e : j = k
        · subst e; exact h
        · exact unhide HW j (by omega)
      have hend : digit (byt s k) = false → dsp s = k := fun h => dsp_eq s k (unhide HW) hk (Or.inr h)
      have Hn := hide hnext; have He := hide hend
      clear hnext hend
      generalize byt s k = c at *
      generalize digit c = p at *
      have HP := hide PC
      clear PC
      cases p
      · go_wp2_with fail
        refine (unhide HP _).mono ?_; rintro e w1 ⟨rfl, rfl⟩
        go_wp2
        go_ret
        exact ⟨congrArg (fun z : Nat => Ending.returned (.int .i64 (z : Int))) (unhide He (by first | rfl | trivial)).symm, rfl⟩
      · go_wp2_with fail
        refine (unhide HP _).mono ?_; rintro e w1 ⟨rfl, rfl⟩
        go_wp2
        go_roundw
        case rel => exact ⟨k + 1, by omega, by go_num, unhide Hn (by first | rfl | trivial), by first | rfl | trivial⟩
        case measure => simp [intOf]; omega
    · obtain rfl : k = s.size := by omega
      have He := hide (dsp_eq s s.size (unhide HW) hk (Or.inl rfl))
      go_wp2
      go_ret
      exact ⟨congrArg (fun z : Nat => Ending.returned (.int .i64 (z : Int))) (unhide He).symm, rfl⟩
def dgs (s : ByteArray) : Nat := dsp (s.extract (frn s) s.size)
theorem dgs_le (s : ByteArray) : frn s + dgs s ≤ s.size := by
  have h1 := dsp_le (s.extract (frn s) s.size)
  rw [ext_size s _ _ (Nat.le_refl _)] at h1
  have := frn_le s
  unfold dgs
  omega
theorem dgs_in (s : ByteArray) (i : Nat) (h1 : frn s ≤ i) (h2 : i < frn s + dgs s) : digit (byt s i) = true := by
  have hd := dgs_le s
  have := dsp_in (s.extract (frn s) s.size) (i - frn s) (by unfold dgs at h2; omega)
  rw [ext_byt s _ _ _ (by omega)] at this
  rwa [show frn s + (i - frn s) = i by omega] at this
theorem numB_dgs (s : ByteArray) : (NumB s ∧ s.size - frn s ≤ 18) ↔ (1 ≤ dgs s ∧ dgs s ≤ 18 ∧ frn s + dgs s = s.size) := by
  have hd := dgs_le s
  constructor
  · rintro ⟨⟨h1, h2⟩, h3⟩
    have h4 : dgs s = s.size - frn s := by
      have := dsp_full (s.extract (frn s) s.size) (fun i hi => by
        rw [ext_size s _ _ (Nat.le_refl _)] at hi
        rw [ext_byt s _ _ _ hi]
        exact h2 _ (by omega) (by omega))
      unfold dgs
      rw [this, ext_size s _ _ (Nat.le_refl _)]
    omega
  · rintro ⟨h1, h2, h3⟩
    exact ⟨⟨by omega, fun i h4 h5 => dgs_in s i h4 (by omega)⟩, by omega⟩
def hd (s : ByteArray) : ByteArray := s.extract 0 (frn s + dgs s)
theorem hd_facts (s : ByteArray) (h1 : 1 ≤ dgs s) (h18 : dgs s ≤ 18) : (hd s).size = frn s + dgs s ∧ NumB (hd s) ∧ (hd s).size - frn (hd s) ≤ 18 ∧ (hd s).size ≤ 19 := by
  have hd' := dgs_le s
  have hf := frn_le s
  have hz : (hd s).size = frn s + dgs s := by
    unfold hd
    rw [ext_size s _ _ hd']; omega
  have hb : ∀ i, i < frn s + dgs s → byt (hd s) i = byt s i := fun i hi => by
    unfold hd
    rw [ext_byt s _ _ _ (by omega), Nat.zero_add]
  have hfr : frn (hd s) = frn s := by
    have hb0 := hb 0 (by omega)
    unfold frn
    rw [hb0, hz]
    by_cases e : byt s 0 = 45
    · rw [if_pos ⟨by omega, e⟩, if_pos ⟨by omega, e⟩]
    · rw [if_neg (fun x => e x.2), if_neg (fun x => e x.2)]
  refine ⟨hz, ⟨by omega, fun i h3 h4 => ?_⟩, by omega, by omega⟩
  rw [hb i (by omega)]
  exact dgs_in s i (by omega) (by omega)
theorem hd_all (s : ByteArray) (h : frn s + dgs s = s.size) : hd s = s := by unfold hd; rw [h]; exact ext_all s
theorem bytes_below (w w' : World) (h : w' = w ∨ ∃ t, w' = Lib.bytesWorld w 5 t) : Below w.heap.size w w' := by
  rcases h with rfl | ⟨t, rfl⟩
  · exact Below.refl _ _
  · exact Lib.bytesWorld_below w 5 t
set_option maxHeartbeats 2000000 in
theorem scanNumber_no (s : ByteArray) (w : World) (h0 : 0 < s.size) (hs : s.size ≤ 1048576) (hd : dgs s = 0 ∨ 18 < dgs s) : Calls Tryz.prog 107 #[.string s] w fun e w' => e = .returned (.tuple #[.agg #[.int .i64 0, .string ⟨#[]⟩, .int .i64 0], .bool false]) ∧ Below w.heap.size w w' := by
  have hb := dgs_le s
  have SP := fun w => spanDig_calls (s.extract (frn s) s.size) w (by rw [ext_size s _ _ (Nat.le_refl _)]; omega)
  rw [show dsp (s.extract (frn s) s.size) = dgs s from rfl] at SP
  have eb0 := byt_eq s 0 h0
  have j0 : (0 : Int) < (s.size : Int) := by omega
  by_cases h45 : byt s 0 = 45
  · have hf1 : frn s = 1 := by unfold frn; rw [if_pos ⟨h0, h45⟩]
    rw [hf1] at SP
    generalize dgs s = d at *
    clear hf1
    have HP := hide SP
    clear SP
    rcases hd with rfl | hd
    · go_enter Tryz.func107, Tryz.ntmps107
      go_wp2_with fail
      refine (unhide HP _).mono ?_; rintro e w1 ⟨rfl, rfl⟩
      go_wp2
      refine bodyPost_ret (v := .tuple #[.agg #[.int .i64 0, .string ⟨#[]⟩, .int .i64 0], .bool false]) (by simp [results, Tryz.results107, go_sem]) rfl ⟨rfl, ?_⟩
      exact bA (Below.refl _ _) _
    · have hd0 : (d : Int) ≠ 0 := by omega
      have hd18 : (18 : Int) < (d : Int) := by omega
      go_enter Tryz.func107, Tryz.ntmps107
      go_wp2_with fail
      refine (unhide HP _).mono ?_; rintro e w1 ⟨rfl, rfl⟩
      go_wp2
      refine bodyPost_ret (v := .tuple #[.agg #[.int .i64 0, .string ⟨#[]⟩, .int .i64 0], .bool false]) (by simp [results, Tryz.results107, go_sem]) rfl ⟨rfl, ?_⟩
      exact bA (Below.refl _ _) _
  · have hf1 : frn s = 0 := by unfold frn; rw [if_neg (fun e => h45 e.2)]
    rw [hf1, ext_all] at SP
    generalize dgs s = d at *
    clear hf1
    have HP := hide SP
    clear SP
    rcases hd with rfl | hd
    · go_enter Tryz.func107, Tryz.ntmps107
      go_wp2_with fail
      refine (unhide HP _).mono ?_; rintro e w1 ⟨rfl, rfl⟩
      go_wp2
      refine bodyPost_ret (v := .tuple #[.agg #[.int .i64 0, .string ⟨#[]⟩, .int .i64 0], .bool false]) (by simp [results, Tryz.results107, go_sem]) rfl ⟨rfl, ?_⟩
      exact bA (Below.refl _ _) _
    · have hd0 : (d : Int) ≠ 0 := by omega
      have hd18 : (18 : Int) < (d : Int) := by omega
      go_enter Tryz.func107, Tryz.ntmps107
      go_wp2_with fail
      refine (unhide HP _).mono ?_; rintro e w1 ⟨rfl, rfl⟩
      go_wp2
      refine bodyPost_ret (v := .tuple #[.agg #[.int .i64 0, .string ⟨#[]⟩, .int .i64 0], .bool false]) (by simp [results, Tryz.results107, go_sem]) rfl ⟨rfl, ?_⟩
      exact bA (Below.refl _ _) _
set_option maxHeartbeats 2000000 in
theorem scanNumber_yes (s : ByteArray) (w : World) (h0 : 0 < s.size) (hs : s.size ≤ 1048576) (hd1 : 1 ≤ dgs s) (hd2 : dgs s ≤ 18) : Calls Tryz.prog 107 #[.string s] w fun e w' => e = .returned (.tuple #[.agg #[.int .i64 3, .string (hd s), .int .i64 (nVal (hd s))], .bool true]) ∧ Below w.heap.size w w' := by
  have hb := dgs_le s
  obtain ⟨q1, q2, q3, q4⟩ := hd_facts s hd1 hd2
  have HPI := hide (fun W => sh_strconv_ParseInt_10_at64_ok (hd s) (by omega) (nVal (hd s)) (parse_ok (hd s) q2 q3) W)
  have SP := fun w => spanDig_calls (s.extract (frn s) s.size) w (by rw [ext_size s _ _ (Nat.le_refl _)]; omega)
  rw [show dsp (s.extract (frn s) s.size) = dgs s from rfl] at SP
  have eb0 := byt_eq s 0 h0
  have j0 : (0 : Int) < (s.size : Int) := by omega
  have hhd : hd s = s.extract 0 (frn s + dgs s) := rfl
  generalize hd s = T at *
  generalize nVal T = V at *
  by_cases h45 : byt s 0 = 45
  · have hf1 : frn s = 1 := by unfold frn; rw [if_pos ⟨h0, h45⟩]
    rw [hf1] at SP
    rw [hf1] at hhd
    rw [hf1] at hb
    generalize dgs s = d at *
    clear hf1
    have HP := hide SP
    clear SP
    have hd0 : (d : Int) ≠ 0 := by omega
    have hd18 : ¬ (18 : Int) < (d : Int) := by omega
    have HB := hide hb
    have HH := hide hhd
    clear hhd
    have hd0' : ((d : Int) == 0) = false := by simp; omega
    have hd18' : decide ((18 : Int) < (d : Int)) = false := by simp; omega
    have hle : (1 + d : Int) ≤ (s.size : Int) := by omega
    go_enter Tryz.func107, Tryz.ntmps107
    go_wp2_with fail
    refine (unhide HP _).mono ?_; rintro e w1 ⟨rfl, rfl⟩
    go_wp2_with fail
    rw [← (unhide HH : T = s.extract 0 (1 + d))]
    refine (unhide HPI _).mono ?_; rintro e w1 ⟨rfl, hw1⟩
    have hb1 := bytes_below _ _ hw1
    obtain ⟨hc, hf⟩ := bcell hb1
    have HB1 := hide (bT (bA (Below.refl w.heap.size w) _) hb1)
    clear hb1 hw1
    go_wp2
    refine bodyPost_ret (v := .tuple #[.agg #[.int .i64 3, .string T, .int .i64 V], .bool true]) (by simp [results, Tryz.results107, go_sem, hc]) rfl ⟨rfl, ?_⟩
    (repeat (refine Below.setCell ?_ (by dsimp only; omega) _))
    exact unhide HB1
  · have hf1 : frn s = 0 := by unfold frn; rw [if_neg (fun e => h45 e.2)]
    rw [hf1, ext_all] at SP
    rw [hf1, Nat.zero_add] at hhd
    rw [hf1] at hb
    generalize dgs s = d at *
    clear hf1
    have HP := hide SP
    clear SP
    have hd0 : (d : Int) ≠ 0 := by omega
    have hd18 : ¬ (18 : Int) < (d : Int) := by omega
    have HB := hide hb
    have HH := hide hhd
    clear hhd
    have hd0' : ((d : Int) == 0) = false := by simp; omega
    have hd18' : decide ((18 : Int) < (d : Int)) = false := by simp; omega
    have hle : (0 + d : Int) ≤ (s.size : Int) := by omega
    go_enter Tryz.func107, Tryz.ntmps107
    go_wp2_with fail
    refine (unhide HP _).mono ?_; rintro e w1 ⟨rfl, rfl⟩
    go_wp2_with fail
    rw [← (unhide HH : T = s.extract 0 (d))]
    refine (unhide HPI _).mono ?_; rintro e w1 ⟨rfl, hw1⟩
    have hb1 := bytes_below _ _ hw1
    obtain ⟨hc, hf⟩ := bcell hb1
    have HB1 := hide (bT (bA (Below.refl w.heap.size w) _) hb1)
    clear hb1 hw1
    go_wp2
    refine bodyPost_ret (v := .tuple #[.agg #[.int .i64 3, .string T, .int .i64 V], .bool true]) (by simp [results, Tryz.results107, go_sem, hc]) rfl ⟨rfl, ?_⟩
    (repeat (refine Below.setCell ?_ (by dsimp only; omega) _))
    exact unhide HB1
end Go.Proofs.YtbbjhepagkkjeaaGreatDoor
namespace Go.Proofs.YtbbjhepagkkjeaaGreatDoor
open Go Go.RowKit
theorem alloc_cell (w : World) (x : Obj) (b k : Nat) (h : b < w.heap.size) : (w.alloc x).cell? ⟨b, k, none⟩ = w.cell? ⟨b, k, none⟩ := (bA (Below.refl w.heap.size w) x).cell (p := ⟨b, k, none⟩) h
theorem alloc_frz (w : World) (x : Obj) (b k : Nat) (h : b < w.heap.size) : (w.alloc x).frozen? ⟨b, k, none⟩ = w.frozen? ⟨b, k, none⟩ := (bA (Below.refl w.heap.size w) x).frozen (p := ⟨b, k, none⟩) h
def IsNul (s : ByteArray) : Prop := s.toList = [78, 85, 76, 76]
theorem isNul_beq {s : ByteArray} (h : IsNul s) : (s.toList == [78, 85, 76, 76]) = true := by rw [h]; rfl
theorem notNul_beq {s : ByteArray} (h : ¬ IsNul s) : (s.toList == [78, 85, 76, 76]) = false := by
  cases e : (s.toList == [78, 85, 76, 76])
  · rfl
  · exact absurd (eq_of_beq e) h
def ValB (s : ByteArray) : Prop := IsNul s ∨ (NumB s ∧ s.size - frn s ≤ 18)
open Classical in
noncomputable def valW (s : ByteArray) : V2 := if IsNul s then (true, 0) else (false, nVal s)
theorem valW_null {s : ByteArray} (h : IsNul s) : valW s = (true, 0) := by unfold valW; rw [if_pos h]
theorem valW_num {s : ByteArray} (h : ¬ IsNul s) : valW s = (false, nVal s) := by unfold valW; rw [if_neg h]
set_option maxHeartbeats 2000000 in
theorem readVal_yes (s : ByteArray) (w : World) (hs : s.size ≤ 1048576) (h : ValB s) : Calls Tryz.prog 84 #[.string s] w fun e w' => e = .returned (.tuple #[.agg #[.bool (valW s).1, .int .i64 (valW s).2], .bool true]) ∧ Below w.heap.size w w' := by
  by_cases hN : IsNul s
  · rw [valW_null hN]
    have hN' := isNul_beq hN
    clear h hN
    go_enter Tryz.func84, Tryz.ntmps84
    go_wp2
    refine bodyPost_ret (v := .tuple #[.agg #[.bool true, .int .i64 0], .bool true]) (by simp [results, Tryz.results84, go_sem]) rfl ⟨rfl, ?_⟩
    (repeat (refine Below.setCell ?_ (by dsimp only; omega) _))
    exact bA (Below.refl _ _) _
  · rw [valW_num hN]
    have hN' := notNul_beq hN
    obtain ⟨h, h18⟩ := h.resolve_left hN
    obtain ⟨d1, d2, d3⟩ := (numB_dgs s).1 ⟨h, h18⟩
    have h0 : 0 < s.size := by omega
    have HS := hide (fun W => scanNumber_yes s W h0 hs d1 d2)
    rw [hd_all s d3] at HS
    generalize nVal s = V at *
    clear h h18 d1 d2 d3 hN
    go_enter Tryz.func84, Tryz.ntmps84
    go_wp2_with fail
    refine (unhide HS _).mono ?_; rintro e w1 ⟨rfl, hb1⟩
    obtain ⟨hc, hf⟩ := bcell hb1
    have hsz : w.heap.size + 1 ≤ w1.heap.size := by have := hb1.size; simpa using this
    have HB1 := hide (bT (bA (Below.refl w.heap.size w) _) hb1)
    have hlt : w.heap.size < w1.heap.size := by omega
    have c0 : w1.cell? ⟨w.heap.size, 0, none⟩ = some (.bool false) := (hc _ 0 (by simp)).trans (by simp [go_sem])
    have c1 : w1.cell? ⟨w.heap.size, 1, none⟩ = some (.int .i64 0) := (hc _ 1 (by simp)).trans (by simp [go_sem])
    have f0 : w1.frozen? ⟨w.heap.size, 0, none⟩ = false := (hf _ 0 (by simp)).trans (by simp [go_sem])
    have f1 : w1.frozen? ⟨w.heap.size, 1, none⟩ = false := (hf _ 1 (by simp)).trans (by simp [go_sem])
    have k0 := (alloc_cell w1 (.cells #[.int .i64 3, .string s, .int .i64 V] 159) w.heap.size 0 hlt).trans c0
    have k1 := (alloc_cell w1 (.cells #[.int .i64 3, .string s, .int .i64 V] 159) w.heap.size 1 hlt).trans c1
    have m0 := (alloc_frz w1 (.cells #[.int .i64 3, .string s, .int .i64 V] 159) w.heap.size 0 hlt).trans f0
    have m1 := (alloc_frz w1 (.cells #[.int .i64 3, .string s, .int .i64 V] 159) w.heap.size 1 hlt).trans f1
    have e0 : (((w1.setCell ⟨w.heap.size, 0, none⟩ (.bool false)).setCell ⟨w.heap.size, 1, none⟩ (.int .i64 V)).alloc (.cells #[.int .i64 3, .string s, .int .i64 V] 159)).cell? ⟨w.heap.size, 0, none⟩ = some (.bool false) :=
      (alloc_cell _ (.cells #[.int .i64 3, .string s, .int .i64 V] 159) w.heap.size 0 (by simpa using hlt)).trans (by rw [setCell_other (by omega)]; exact World.cell?_setCell_same _ _ _ c0)
    have e1 : (((w1.setCell ⟨w.heap.size, 0, none⟩ (.bool false)).setCell ⟨w.heap.size, 1, none⟩ (.int .i64 V)).alloc (.cells #[.int .i64 3, .string s, .int .i64 V] 159)).cell? ⟨w.heap.size, 1, none⟩ = some (.int .i64 V) :=
      (alloc_cell _ (.cells #[.int .i64 3, .string s, .int .i64 V] 159) w.heap.size 1 (by simpa using hlt)).trans (World.cell?_setCell_same _ _ _ (by rw [setCell_other (by omega)]; exact c1))
    clear hb1 hc hf
    go_wp2
    go_region
    all_goals go_wp2
    all_goals (refine bodyPost_ret (v := .tuple #[.agg #[.bool false, .int .i64 V], .bool true]) (by simp [results, Tryz.results84, go_sem, e0, e1]) rfl ⟨rfl, ?_⟩)
    all_goals ((repeat (first | refine Below.setCell ?_ (by dsimp only; omega) _ | refine bA ?_ _ | refine Below.drew ?_)); exact unhide HB1)
set_option maxHeartbeats 4000000 in
theorem readVal_no (s : ByteArray) (w : World) (hs : s.size ≤ 1048576) (h0 : 0 < s.size) (h : ¬ ValB s) : Calls Tryz.prog 84 #[.string s] w fun e w' => (∃ v : V2, e = .returned (.tuple #[.agg #[.bool v.1, .int .i64 v.2], .bool false])) ∧ Below w.heap.size w w' := by
  have hN : ¬ IsNul s := fun e => h (Or.inl e)
  have hN' := notNul_beq hN
  by_cases hdd : 1 ≤ dgs s ∧ dgs s ≤ 18
  · have HS := hide (fun W => scanNumber_yes s W h0 hs hdd.1 hdd.2)
    obtain ⟨q1, q2, q3, q4⟩ := hd_facts s hdd.1 hdd.2
    have hne : (hd s).size ≠ s.size := fun e => h (Or.inr ((numB_dgs s).2 ⟨hdd.1, hdd.2, by omega⟩))
    have hne' : (((hd s).size : Int) == (s.size : Int)) = false := by simp; omega
    generalize hd s = T at *
    generalize nVal T = V at *
    clear h q1 q2 q3 q4 hN hne
    go_enter Tryz.func84, Tryz.ntmps84
    go_wp2_with fail
    refine (unhide HS _).mono ?_; rintro e w1 ⟨rfl, hb1⟩
    obtain ⟨hc, hf⟩ := bcell hb1
    have hsz : w.heap.size + 1 ≤ w1.heap.size := by have := hb1.size; simpa using this
    have HB1 := hide (bT (bA (Below.refl w.heap.size w) _) hb1)
    have hlt : w.heap.size < w1.heap.size := by omega
    have c0 : w1.cell? ⟨w.heap.size, 0, none⟩ = some (.bool false) := (hc _ 0 (by simp)).trans (by simp [go_sem])
    have c1 : w1.cell? ⟨w.heap.size, 1, none⟩ = some (.int .i64 0) := (hc _ 1 (by simp)).trans (by simp [go_sem])
    have f0 : w1.frozen? ⟨w.heap.size, 0, none⟩ = false := (hf _ 0 (by simp)).trans (by simp [go_sem])
    have f1 : w1.frozen? ⟨w.heap.size, 1, none⟩ = false := (hf _ 1 (by simp)).trans (by simp [go_sem])
    have k0 := (alloc_cell w1 (.cells #[.int .i64 3, .string T, .int .i64 V] 159) w.heap.size 0 hlt).trans c0
    have k1 := (alloc_cell w1 (.cells #[.int .i64 3, .string T, .int .i64 V] 159) w.heap.size 1 hlt).trans c1
    have m0 := (alloc_frz w1 (.cells #[.int .i64 3, .string T, .int .i64 V] 159) w.heap.size 0 hlt).trans f0
    have m1 := (alloc_frz w1 (.cells #[.int .i64 3, .string T, .int .i64 V] 159) w.heap.size 1 hlt).trans f1
    have e0 : (((w1.setCell ⟨w.heap.size, 0, none⟩ (.bool false)).setCell ⟨w.heap.size, 1, none⟩ (.int .i64 V)).alloc (.cells #[.int .i64 3, .string T, .int .i64 V] 159)).cell? ⟨w.heap.size, 0, none⟩ = some (.bool false) :=
      (alloc_cell _ (.cells #[.int .i64 3, .string T, .int .i64 V] 159) w.heap.size 0 (by simpa using hlt)).trans (by rw [setCell_other (by omega)]; exact World.cell?_setCell_same _ _ _ c0)
    have e1 : (((w1.setCell ⟨w.heap.size, 0, none⟩ (.bool false)).setCell ⟨w.heap.size, 1, none⟩ (.int .i64 V)).alloc (.cells #[.int .i64 3, .string T, .int .i64 V] 159)).cell? ⟨w.heap.size, 1, none⟩ = some (.int .i64 V) :=
      (alloc_cell _ (.cells #[.int .i64 3, .string T, .int .i64 V] 159) w.heap.size 1 (by simpa using hlt)).trans (World.cell?_setCell_same _ _ _ (by rw [setCell_other (by omega)]; exact c1))
    clear hb1 hc hf
    go_wp2
    go_region
    all_goals go_wp2
    all_goals (refine bodyPost_ret (v := .tuple #[.agg #[.bool false, .int .i64 V], .bool false]) (by simp [results, Tryz.results84, go_sem, e0, e1]) rfl ⟨⟨(false, V), rfl⟩, ?_⟩)
    all_goals ((repeat (first | refine Below.setCell ?_ (by dsimp only; omega) _ | refine bA ?_ _ | refine Below.drew ?_)); exact unhide HB1)
  · have HS := hide (fun W => scanNumber_no s W h0 hs (by omega))
    clear h hN hdd
    go_enter Tryz.func84, Tryz.ntmps84
    go_wp2_with fail
    refine (unhide HS _).mono ?_; rintro e w1 ⟨rfl, hb1⟩
    obtain ⟨hc, hf⟩ := bcell hb1
    have hsz : w.heap.size + 1 ≤ w1.heap.size := by have := hb1.size; simpa using this
    have HB1 := hide (bT (bA (Below.refl w.heap.size w) _) hb1)
    have hlt : w.heap.size < w1.heap.size := by omega
    have c0 : w1.cell? ⟨w.heap.size, 0, none⟩ = some (.bool false) := (hc _ 0 (by simp)).trans (by simp [go_sem])
    have c1 : w1.cell? ⟨w.heap.size, 1, none⟩ = some (.int .i64 0) := (hc _ 1 (by simp)).trans (by simp [go_sem])
    have f0 : w1.frozen? ⟨w.heap.size, 0, none⟩ = false := (hf _ 0 (by simp)).trans (by simp [go_sem])
    have f1 : w1.frozen? ⟨w.heap.size, 1, none⟩ = false := (hf _ 1 (by simp)).trans (by simp [go_sem])
    have k0 := (alloc_cell w1 (.cells #[.int .i64 0, .string ⟨#[]⟩, .int .i64 0] 159) w.heap.size 0 hlt).trans c0
    have k1 := (alloc_cell w1 (.cells #[.int .i64 0, .string ⟨#[]⟩, .int .i64 0] 159) w.heap.size 1 hlt).trans c1
    have m0 := (alloc_frz w1 (.cells #[.int .i64 0, .string ⟨#[]⟩, .int .i64 0] 159) w.heap.size 0 hlt).trans f0
    have m1 := (alloc_frz w1 (.cells #[.int .i64 0, .string ⟨#[]⟩, .int .i64 0] 159) w.heap.size 1 hlt).trans f1
    have e0 : (((w1.setCell ⟨w.heap.size, 0, none⟩ (.bool false)).setCell ⟨w.heap.size, 1, none⟩ (.int .i64 0)).alloc (.cells #[.int .i64 0, .string ⟨#[]⟩, .int .i64 0] 159)).cell? ⟨w.heap.size, 0, none⟩ = some (.bool false) :=
      (alloc_cell _ (.cells #[.int .i64 0, .string ⟨#[]⟩, .int .i64 0] 159) w.heap.size 0 (by simpa using hlt)).trans (by rw [setCell_other (by omega)]; exact World.cell?_setCell_same _ _ _ c0)
    have e1 : (((w1.setCell ⟨w.heap.size, 0, none⟩ (.bool false)).setCell ⟨w.heap.size, 1, none⟩ (.int .i64 0)).alloc (.cells #[.int .i64 0, .string ⟨#[]⟩, .int .i64 0] 159)).cell? ⟨w.heap.size, 1, none⟩ = some (.int .i64 0) :=
      (alloc_cell _ (.cells #[.int .i64 0, .string ⟨#[]⟩, .int .i64 0] 159) w.heap.size 1 (by simpa using hlt)).trans (World.cell?_setCell_same _ _ _ (by rw [setCell_other (by omega)]; exact c1))
    clear hb1 hc hf
    go_wp2
    go_region
    all_goals go_wp2
    all_goals (refine bodyPost_ret (v := .tuple #[.agg #[.bool false, .int .i64 0], .bool false]) (by simp [results, Tryz.results84, go_sem, e0, e1]) rfl ⟨⟨(false, 0), rfl⟩, ?_⟩)
    all_goals ((repeat (first | refine Below.setCell ?_ (by dsimp only; omega) _ | refine bA ?_ _ | refine Below.drew ?_)); exact unhide HB1)
end Go.Proofs.YtbbjhepagkkjeaaGreatDoor
