import Derived.Test.YtbbjhepagkkjeaaGreatDoorQ25
import Derived.Test.YtbbjhepagkkjeaaGreatDoorFldFit
import Derived.BigQuiet
import Derived.Test.YtbbjhepagkkjeaaGreatDoorQ24
import Derived.Test.YtbbjhepagkkjeaaGreatDoorQ23
import Derived.Test.YtbbjhepagkkjeaaGreatDoorQ2
import Derived.Test.YtbbjhepagkkjeaaGreatDoorQ11
import Derived.Test.YtbbjhepagkkjeaaGreatDoorQ9
import Derived.Maps.OwnSet
namespace Go.Proofs.YtbbjhepagkkjeaaGreatDoor
open Go Go.RowKit
def FldN (nt : Nat) (K T M : Int) (le ls : Nat) (L R : Int) : Prop := 1 ≤ K ∧ K ≤ 10 ∧ usedP nt K T M le ls ∧ (arity K = 0 → L = 0) ∧ (arity K ≠ 2 → R = 0)
theorem fldN_iff {nt : Nat} {K T M : Int} {le ls : Nat} {L R : Int} (h1 : 1 ≤ K) (h2 : K ≤ 10) : FldN nt K T M le ls L R ↔ FitH (pfb K 0) (pfb K 1) (pfb K 2) (pfb K 3) (pfb K 4) (pfb K 5) nt T M le ls L R := by
  have e : K = 1 ∨ K = 2 ∨ K = 3 ∨ K = 4 ∨ K = 5 ∨ K = 6 ∨ K = 7 ∨ K = 8 ∨ K = 9 ∨ K = 10 := by omega
  unfold FldN usedP FitH nOk
  rcases e with rfl | rfl | rfl | rfl | rfl | rfl | rfl | rfl | rfl | rfl <;> simp [pfb, pf, arity] <;> omega
set_option maxRecDepth 100000 in
set_option maxHeartbeats 8000000 in
theorem fieldsOk_calls (nt : Nat) (K T M L R : Int) (le ls : Nat) (a3 a4 : Option Addr) (c3 c4 : Nat) (w : World) (hnt : nt ≤ 1048576) (l2 : le ≤ 1048576) (l3 : ls ≤ 1048576) (hT : TPlan w) :
    Calls Tryz.prog 52 #[.agg #[.int .i64 K, .int .i64 T, .int .i64 M, .slice a3 le c3, .slice a4 ls c4, .int .i64 L, .int .i64 R], .int .i64 (nt : Int)] w fun e w' => e = .returned (.bool (dB (FldN nt K T M le ls L R))) ∧ Below w.heap.size w w' := by
  have hB0 := bA (Below.refl w.heap.size w) (.cells #[.int .i64 K, .int .i64 T, .int .i64 M, .slice a3 le c3, .slice a4 ls c4, .int .i64 L, .int .i64 R] 39)
  obtain ⟨n0, n1, n2, n3, n4, n5, n6⟩ := (fun Q (hQ : (w.alloc (.cells #[.int .i64 K, .int .i64 T, .int .i64 M, .slice a3 le c3, .slice a4 ls c4, .int .i64 L, .int .i64 R] 39)) = Q) => (by subst hQ; exact ⟨by simp [go_sem], by simp [go_sem], by simp [go_sem], by simp [go_sem], by simp [go_sem], by simp [go_sem], by simp [go_sem]⟩ : Q.cell? ⟨w.heap.size, 0, none⟩ = some (.int .i64 K) ∧ Q.cell? ⟨w.heap.size, 1, none⟩ = some (.int .i64 T) ∧ Q.cell? ⟨w.heap.size, 2, none⟩ = some (.int .i64 M) ∧ Q.cell? ⟨w.heap.size, 3, none⟩ = some (.slice a3 le c3) ∧ Q.cell? ⟨w.heap.size, 4, none⟩ = some (.slice a4 ls c4) ∧ Q.cell? ⟨w.heap.size, 5, none⟩ = some (.int .i64 L) ∧ Q.cell? ⟨w.heap.size, 6, none⟩ = some (.int .i64 R))) _ rfl
  have z4 : w.heap.size < (w.alloc (.cells #[.int .i64 K, .int .i64 T, .int .i64 M, .slice a3 le c3, .slice a4 ls c4, .int .i64 L, .int .i64 R] 39)).heap.size := by simp
  by_cases h1 : K < 1
  · have HE : Hid (dB (FldN nt K T M le ls L R) = false) := dB_false (fun h => by have := h.1; omega)
    generalize dB (FldN nt K T M le ls L R) = E at *
    have k1 : ¬ 1 ≤ K := by omega
    have HB0 := hide hB0
    clear hT hB0
    go_enter Tryz.func52, Tryz.ntmps52
    go_upto_region 1 with fail
    go_quiet (fail)
    go_wp2
    go_ret
    exact ⟨congrArg (fun z => Ending.returned (.bool z)) HE.out.symm, below_drewN (unhide HB0) _⟩
  by_cases h2 : 10 < K
  · have HE : Hid (dB (FldN nt K T M le ls L R) = false) := dB_false (fun h => by have := h.2.1; omega)
    generalize dB (FldN nt K T M le ls L R) = E at *
    have k1 : 1 ≤ K := by omega
    have k2 : ¬ K ≤ 10 := by omega
    have HB0 := hide hB0
    clear hT hB0
    go_enter Tryz.func52, Tryz.ntmps52
    go_upto_region 1 with fail
    go_quiet (fail)
    go_wp2
    go_ret
    exact ⟨congrArg (fun z => Ending.returned (.bool z)) HE.out.symm, below_drewN (unhide HB0) _⟩
  have HE := hide (dB_congr (fldN_iff (nt := nt) (T := T) (M := M) (le := le) (ls := ls) (L := L) (R := R) (show 1 ≤ K by omega) (show K ≤ 10 by omega)))
  have RX := hide (fun W => fit_calls (pfb K 0) (pfb K 1) (pfb K 2) (pfb K 3) (pfb K 4) (pfb K 5) (pfb K 6) (pfb K 7) nt K T M L R le ls a3 a4 c3 c4 W hnt l2 l3)
  have hT1 := hT.of hB0
  obtain ⟨t0, t1, t2, t3, t4, t5, t6, t7⟩ := p_look hT1 K (by omega) (by omega)
  have hz := hT1.size
  have k0 : (0 : Int) ≤ K := by omega
  have k1 : 1 ≤ K := by omega
  have k2 : K ≤ 10 := by omega
  have k11 : K < 11 := by omega
  generalize dB (FldN nt K T M le ls L R) = E at *
  obtain ⟨E', hE'⟩ : ∃ E', dB (FitH (pfb K 0) (pfb K 1) (pfb K 2) (pfb K 3) (pfb K 4) (pfb K 5) nt T M le ls L R) = E' := ⟨_, rfl⟩
  rw [hE'] at HE RX
  have HB0 := hide hB0
  clear hT hT1 hE' hB0 h1 h2 hnt l2 l3
  generalize pfb K 0 = p0 at *
  generalize pfb K 1 = p1 at *
  generalize pfb K 2 = p2 at *
  generalize pfb K 3 = p3 at *
  generalize pfb K 4 = p4 at *
  generalize pfb K 5 = p5 at *
  generalize pfb K 6 = p6 at *
  generalize pfb K 7 = p7 at *
  go_enter Tryz.func52, Tryz.ntmps52
  go_upto_region 1 with fail
  generalize (w.alloc (.cells #[.int .i64 K, .int .i64 T, .int .i64 M, .slice a3 le c3, .slice a4 ls c4, .int .i64 L, .int .i64 R] 39)) = Wb at *
  generalize hbx : w.heap.size = bx at *
  have HBX := hide hbx
  clear hbx
  refine wp_region_held_drew (S := Std Wb) (by kernel_rfl) (Std.drew (Std.refl _)) (fun hHeld => ?_)
  refine tW 0 5 (.pointer (some ⟨bx, 0, none⟩)) ?_
  simp only [puts]
  refine tW 1 6 (.int .i64 K) ?_
  simp only [puts]
  refine tW 2 7 (.bool true) ?_
  simp only [puts]
  refine tW 3 8 (.bool true) ?_
  simp only [puts]
  refine tW 4 9 (.pointer (some ⟨bx, 0, none⟩)) ?_
  simp only [puts]
  refine tW 5 10 (.int .i64 K) ?_
  simp only [puts]
  refine tW 6 11 (.bool true) ?_
  simp only [puts]
  refine tW 7 12 (.bool true) ?_
  simp only [puts]
  refine tW 8 13 (.bool true) ?_
  simp only [puts]
  refine tW 9 14 (.pointer (some ⟨bx, 0, none⟩)) ?_
  simp only [puts]
  refine tW 10 15 (.int .i64 K) ?_
  simp only [puts]
  refine tW 11 16 (.pointer (some ⟨0, K.toNat * 8, none⟩)) ?_
  simp only [puts]
  refine tW 12 17 (.agg #[.bool p0, .bool p1, .bool p2, .bool p3, .bool p4, .bool p5, .bool p6, .bool p7]) ?_
  simp only [puts]
  refine tW 13 18 (.agg #[.int .i64 K, .int .i64 T, .int .i64 M, .slice a3 le c3, .slice a4 ls c4, .int .i64 L, .int .i64 R]) ?_
  simp only [puts]
  refine tW 14 19 (.int .i64 (nt : Int)) ?_
  simp only [puts]
  refine wpAnyH_ready (rs := [15]) (by kernel_rfl) (by simp) ?_
  refine AllReadyH.cons rfl (fun Kx hK => ?_) AllReadyH.nil
  go_simp
  refine (unhide RX _).mono ?_
  rintro e w2 ⟨rfl, hb2⟩
  refine hK.out _ _ (Std.call (by assumption) hb2) (fun hHeld2 => ?_)
  clear hK Kx
  refine tW 16 21 (.bool E') ?_
  simp only [puts]
  refine tW 17 4 (.bool E') ?_
  simp only [puts]
  refine wpAnyH_done (by kernel_rfl) ?_ _
  have hbx := unhide HBX
  have hB := bT (show Below w.heap.size w Wb by rw [hbx]; exact unhide HB0) hHeld2.2.2
  clear hbx HBX
  go_wp2
  go_ret
  exact ⟨congrArg (fun z => Ending.returned (.bool z)) (unhide HE).symm, hB⟩
end Go.Proofs.YtbbjhepagkkjeaaGreatDoor
namespace Go.Proofs.YtbbjhepagkkjeaaGreatDoor
open Go Go.RowKit
end Go.Proofs.YtbbjhepagkkjeaaGreatDoor
namespace Go.Proofs.YtbbjhepagkkjeaaGreatDoor
open Go Go.RowKit
end Go.Proofs.YtbbjhepagkkjeaaGreatDoor
namespace Go.Proofs.YtbbjhepagkkjeaaGreatDoor
open Go Go.RowKit
def Bd (n : Nat) (xs : List Int) : Prop := ∀ j, 0 ≤ xs.getD j 0 ∧ xs.getD j 0 ≤ 1 + ((n - j : Nat) : Int) * 4294967296
theorem Bd.set {n : Nat} {xs : List Int} (h : Bd n xs) {k : Nat} (hk : k < xs.length) {v : Int} (h0 : 0 ≤ v) (h1 : v ≤ 1 + ((n - k : Nat) : Int) * 4294967296) : Bd n (xs.set k v) := fun j => by
  rw [getD_set hk]
  by_cases e : j = k
  · rw [if_pos e, e]; exact ⟨h0, h1⟩
  · rw [if_neg e]; exact h j
end Go.Proofs.YtbbjhepagkkjeaaGreatDoor
namespace Go.Proofs.YtbbjhepagkkjeaaGreatDoor
open Go Go.RowKit
structure ScanAt (w : World) (g T : Nat) : Prop where
  size : g < w.heap.size
  c0 : w.cell? ⟨g, 0, none⟩ = some (.int .i64 2)
  c1 : w.cell? ⟨g, 1, none⟩ = some (.int .i64 (T : Int))
  c2 : w.cell? ⟨g, 2, none⟩ = some (.int .i64 0)
  c3 : w.cell? ⟨g, 3, none⟩ = some (.slice none 0 0)
  c4 : w.cell? ⟨g, 4, none⟩ = some (.slice none 0 0)
  c5 : w.cell? ⟨g, 5, none⟩ = some (.int .i64 0)
  c6 : w.cell? ⟨g, 6, none⟩ = some (.int .i64 0)
theorem ScanAt.of {w w1 : World} {g T : Nat} (h : ScanAt w g T) (hb : Below w.heap.size w w1) : ScanAt w1 g T :=
  ⟨Nat.lt_of_lt_of_le h.size hb.size, (hb.cell (p := ⟨g, 0, none⟩) h.size).trans h.c0, (hb.cell (p := ⟨g, 1, none⟩) h.size).trans h.c1, (hb.cell (p := ⟨g, 2, none⟩) h.size).trans h.c2, (hb.cell (p := ⟨g, 3, none⟩) h.size).trans h.c3, (hb.cell (p := ⟨g, 4, none⟩) h.size).trans h.c4, (hb.cell (p := ⟨g, 5, none⟩) h.size).trans h.c5, (hb.cell (p := ⟨g, 6, none⟩) h.size).trans h.c6⟩
theorem make_one (w : World) : (Instr.makeSlice 66 (.int .i64 1) (.int .i64 1)).run Tryz.prog w = .ok (.slice (some ⟨w.heap.size, 0, none⟩) 1 1) (w.alloc (.cells #[.int .i64 0] 3)) := by
  have h := make_intsP 1 (by omega) w
  have e : madeCells #[.int .i64 0] 1 = #[.int .i64 0] := by simp [madeCells]; exact ⟨0, rfl, rfl⟩
  rw [e] at h
  exact h
set_option maxRecDepth 100000 in
set_option maxHeartbeats 4000000 in
theorem orderOk_scan (g T cap : Nat) (w : World) (h : ScanAt w g T) (hT : TPlan w) :
    Calls Tryz.prog 53 #[.slice (some ⟨g, 0, none⟩) 1 cap] w fun e w' => e = .returned (.bool true) ∧ Below w.heap.size w w' := by
  have hmk := make_one
  obtain ⟨hg, c0, c1, c2, c3, c4, c5, c6⟩ := h
  have HK := hide (fun W (hbW : Below w.heap.size w W) => planKids_none 2 (T : Int) 0 0 0 (.slice none 0 0) (.slice none 0 0) W (by omega) (by omega) (by decide) (hT.of hbW))
  clear hT
  go_enter Tryz.func53, Tryz.ntmps53
  go_wp2
  refine wp_loop_rounds 2 ?_
  rw [rounds_succ]
  go_wp2_with fail
  refine (unhide HK _ (by (repeat (first | exact Below.refl _ _ | refine bA ?_ _)))).mono ?_; rintro e w1 ⟨rfl, hb1⟩
  have d1 := bT (by (repeat (first | exact Below.refl _ _ | refine bA ?_ _)) : Below w.heap.size w _) hb1
  have r1 : w1.cell? ⟨w.heap.size, 0, none⟩ = some (.int .i64 0) := (hb1.cell (p := ⟨w.heap.size, 0, none⟩) (by simp; omega)).trans (by simp [go_sem])
  have r2 : ∀ o, w1.frozen? ⟨w.heap.size, o, none⟩ = false := fun o => (hb1.frozen (p := ⟨w.heap.size, o, none⟩) (by simp; omega)).trans (by simp [go_sem])
  have r3 : w.heap.size < w1.heap.size := by have := hb1.size; simp at this; omega
  have HB := hide d1
  clear hb1 d1 HK c0 c1 c2 c3 c4 c5 c6 hmk
  go_wp2
  refine wp_loop_rounds 1 ?_
  rw [rounds_succ]
  go_wp2
  rw [rounds_succ]
  go_wp2
  go_ret
  exact ⟨rfl, (unhide HB).setCell (p := ⟨w.heap.size, 0, none⟩) (Nat.le_refl _) _⟩
def OneE (w : World) (v : Int) (e : Ending) (w' : World) : Prop := ∃ b, e = .returned (.slice (some ⟨b, 0, none⟩) 1 1) ∧ w.heap.size ≤ b ∧ b < w'.heap.size ∧ w'.cell? ⟨b, 0, none⟩ = some (.int .i64 v) ∧ Below w.heap.size w w'
set_option maxRecDepth 100000 in
set_option maxHeartbeats 4000000 in
theorem planWidths_scan (g T cap gt nt capt : Nat) (C : Int) (w : World) (h : ScanAt w g T) (hgt : gt < w.heap.size) (hT : T < nt) (ct : w.cell? ⟨gt, T * 3 + 1, none⟩ = some (.int .i64 C)) :
    Calls Tryz.prog 54 #[.slice (some ⟨g, 0, none⟩) 1 cap, .slice (some ⟨gt, 0, none⟩) nt capt] w (OneE w C) := by
  have hmk := make_one
  obtain ⟨hg, c0, c1, c2, c3, c4, c5, c6⟩ := h
  have hTi : (T : Int) < (nt : Int) := by omega
  go_enter Tryz.func54, Tryz.ntmps54
  go_wp2
  refine wp_loop_rounds 2 ?_
  rw [rounds_succ]
  go_wp2
  rw [rounds_succ]
  go_wp2
  go_ret
  refine ⟨w.heap.size, rfl, Nat.le_refl _, (by simp; omega), ?_, ?_⟩
  · simp [go_sem]
  · (repeat (first | exact Below.refl _ _ | refine bA ?_ _ | refine Below.setCell ?_ (Nat.le_refl _) _))
set_option maxRecDepth 100000 in
set_option maxHeartbeats 4000000 in
theorem planRows_scan (g T cap gt nt capt : Nat) (ua : Option Addr) (n uc : Nat) (w : World) (h : ScanAt w g T) (hgt : gt < w.heap.size) (hT : T < nt) (ct : w.cell? ⟨gt, T * 3 + 2, none⟩ = some (.slice ua n uc)) :
    Calls Tryz.prog 58 #[.slice (some ⟨g, 0, none⟩) 1 cap, .slice (some ⟨gt, 0, none⟩) nt capt] w (OneE w (n : Int)) := by
  have hmk := make_one
  obtain ⟨hg, c0, c1, c2, c3, c4, c5, c6⟩ := h
  have hTi : (T : Int) < (nt : Int) := by omega
  go_enter Tryz.func58, Tryz.ntmps58
  go_wp2
  refine wp_loop_rounds 2 ?_
  rw [rounds_succ]
  go_wp2
  rw [rounds_succ]
  go_wp2
  go_ret
  refine ⟨w.heap.size, rfl, Nat.le_refl _, (by simp; omega), ?_, ?_⟩
  · simp [go_sem]
  · (repeat (first | exact Below.refl _ _ | refine bA ?_ _ | refine Below.setCell ?_ (Nat.le_refl _) _))
theorem scan_look {w : World} (h : TPlan w) : w.cell? ⟨0, 16, none⟩ = some (.bool true) ∧ w.cell? ⟨0, 17, none⟩ = some (.bool false) ∧ w.cell? ⟨0, 18, none⟩ = some (.bool false) ∧ w.cell? ⟨0, 19, none⟩ = some (.bool false) ∧ w.cell? ⟨0, 20, none⟩ = some (.bool false) ∧ w.cell? ⟨0, 21, none⟩ = some (.bool false) ∧ w.cell? ⟨0, 22, none⟩ = some (.bool false) ∧ w.cell? ⟨0, 23, none⟩ = some (.bool false) := p_look h 2 (by omega) (by omega)
set_option maxRecDepth 100000 in
set_option maxHeartbeats 4000000 in
theorem handDown_scan (g T cap : Nat) (root : Int) (fv : Value) (w : World) (h : ScanAt w g T) (hT : TPlan w) :
    Calls Tryz.prog 55 #[.slice (some ⟨g, 0, none⟩) 1 cap, .int .i64 root, fv] w (OneE w root) := by
  have hmk := make_one
  obtain ⟨hg, c0, c1, c2, c3, c4, c5, c6⟩ := h
  have HK := hide (fun W (hbW : Below w.heap.size w W) => planKids_none 2 (T : Int) 0 0 0 (.slice none 0 0) (.slice none 0 0) W (by omega) (by omega) (by decide) (hT.of hbW))
  have HLk := hide (fun W (hbW : Below w.heap.size w W) => (scan_look (hT.of hbW)).2.2.2.2.2.2.1)
  have HTz := hide (fun W (hbW : Below w.heap.size w W) => (hT.of hbW).size)
  clear hT
  go_enter Tryz.func55, Tryz.ntmps55
  go_wp2
  refine wp_loop_rounds 2 ?_
  rw [rounds_succ]
  go_wp2_with fail
  refine (unhide HK _ (by (repeat (first | exact Below.refl _ _ | refine bA ?_ _)))).mono ?_; rintro e w1 ⟨rfl, hb1⟩
  have d1 := bT (by (repeat (first | exact Below.refl _ _ | refine bA ?_ _)) : Below w.heap.size w _) hb1
  have r1 : w1.cell? ⟨w.heap.size, 0, none⟩ = some (.int .i64 root) := (hb1.cell (p := ⟨w.heap.size, 0, none⟩) (by simp; omega)).trans (by simp [go_sem])
  have n0 : w1.cell? ⟨w.heap.size + 1, 0, none⟩ = some (.int .i64 2) := (hb1.cell (p := ⟨w.heap.size + 1, 0, none⟩) (by simp)).trans (by simp [go_sem])
  have r3 : w.heap.size < w1.heap.size := by have := hb1.size; simp at this; omega
  have r4 : w.heap.size + 1 < w1.heap.size := by have := hb1.size; simp at this; omega
  have t6 := unhide HLk _ d1
  have tz := unhide HTz _ d1
  have HB := hide d1; have HR := hide r1
  clear hb1 d1 HK c0 c1 c2 c3 c4 c5 c6 hmk HLk HTz r1
  go_wp2
  refine wp_loop_rounds 1 ?_
  rw [rounds_succ]
  go_wp2
  rw [rounds_succ]
  go_wp2
  go_ret
  exact ⟨w.heap.size, rfl, Nat.le_refl _, r3, unhide HR, unhide HB⟩
set_option maxRecDepth 100000 in
set_option maxHeartbeats 4000000 in
theorem exsOk_scan (T : Nat) (z : Int) (w : World) :
    Calls Tryz.prog 91 #[.agg #[.bool true, .bool false, .bool false, .bool false, .bool false, .bool false, .bool false, .bool false], .agg #[.int .i64 2, .int .i64 (T : Int), .int .i64 0, .slice none 0 0, .slice none 0 0, .int .i64 0, .int .i64 0], .int .i64 z] w fun e w' => e = .returned (.bool true) ∧ Below w.heap.size w w' := by
  have HU := hide (fun W => fUses_calls true false false false false false false false 0 W)
  go_enter Tryz.func91, Tryz.ntmps91
  go_wp2_with fail
  refine (unhide HU _).mono ?_; rintro e w1 ⟨rfl, hb1⟩
  have d1 := bT (bA (bA (Below.refl w.heap.size w) _) _) hb1
  have n4 : w1.cell? ⟨w.heap.size + 1, 4, none⟩ = some (.slice none 0 0) := (hb1.cell (p := ⟨w.heap.size + 1, 4, none⟩) (by simp)).trans (by simp [go_sem])
  have s2 : w.heap.size + 1 < w1.heap.size := by have := hb1.size; simp at this; omega
  have HB := hide d1
  clear hb1 HU d1
  go_wp2
  refine wp_loop_rounds 1 ?_
  rw [rounds_succ]
  go_wp2
  go_ret
  exact ⟨rfl, unhide HB⟩
set_option maxRecDepth 100000 in
set_option maxHeartbeats 4000000 in
theorem seenOk_scan (T b : Nat) (env v : Int) (w : World) (hT : TPlan w) (hb : b < w.heap.size) (cb : w.cell? ⟨b, 0, none⟩ = some (.int .i64 v)) (h0 : 0 ≤ v) (h1 : v ≤ 1000) (h2 : 0 ≤ env) (h3 : env ≤ 1000) :
    Calls Tryz.prog 57 #[.agg #[.int .i64 2, .int .i64 (T : Int), .int .i64 0, .slice none 0 0, .slice none 0 0, .int .i64 0, .int .i64 0], .int .i64 env, .slice (some ⟨b, 0, none⟩) 1 1] w fun e w' => e = .returned (.bool true) ∧ Below w.heap.size w w' := by
  have HX := hide (fun W => exsOk_scan T (env + v) W)
  obtain ⟨t0, t1, t2, t3, t4, t5, t6, t7⟩ := scan_look hT
  have htz := hT.size
  clear hT
  go_enter Tryz.func57, Tryz.ntmps57
  go_wp2_with fail
  refine (unhide HX _).mono ?_; rintro e w1 ⟨rfl, hb1⟩
  have HB := hide (bT (by (repeat (first | exact Below.refl _ _ | refine bA ?_ _)) : Below w.heap.size w _) hb1)
  clear hb1 HX
  go_wp2
  go_ret
  exact ⟨rfl, unhide HB⟩
end Go.Proofs.YtbbjhepagkkjeaaGreatDoor
namespace Go.Proofs.YtbbjhepagkkjeaaGreatDoor
open Go Go.RowKit
def RowsX (w : World) (ua : Option Addr) (xss : List (List V2)) : Prop := ∀ (j : Nat) (hj : j < xss.length), ∃ G ra rc, ua = some ⟨G, 0, none⟩ ∧ G < w.heap.size ∧ w.cell? ⟨G, j, none⟩ = some (.slice ra (xss[j]).length rc)
theorem RowsX.of {w w1 : World} {ua : Option Addr} {xss : List (List V2)} (h : RowsX w ua xss) (hb : Below w.heap.size w w1) : RowsX w1 ua xss := fun j hj => by
  obtain ⟨G, ra, rc, h1, h2, h3⟩ := h j hj
  exact ⟨G, ra, rc, h1, Nat.lt_of_lt_of_le h2 hb.size, (hb.cell (p := ⟨G, j, none⟩) h2).trans h3⟩
def TabsX (w : World) (a : Option Addr) (ts : List Tb) : Prop := ∀ (i : Nat) (hi : i < ts.length), ∃ g ua uc, a = some ⟨g, 0, none⟩ ∧ g < w.heap.size ∧ w.cell? ⟨g, i * 3, none⟩ = some (.string (ts[i]).Name) ∧ w.cell? ⟨g, i * 3 + 1, none⟩ = some (.int .i64 (ts[i]).Cols) ∧ w.cell? ⟨g, i * 3 + 2, none⟩ = some (.slice ua (ts[i]).Rows.length uc) ∧ RowsX w ua (ts[i]).Rows
theorem TabsX.of {w w1 : World} {a : Option Addr} {ts : List Tb} (h : TabsX w a ts) (hb : Below w.heap.size w w1) : TabsX w1 a ts := fun i hi => by
  obtain ⟨g, ua, uc, h1, h2, h3, h4, h5, h6⟩ := h i hi
  exact ⟨g, ua, uc, h1, Nat.lt_of_lt_of_le h2 hb.size, (hb.cell (p := ⟨g, i * 3, none⟩) h2).trans h3, (hb.cell (p := ⟨g, i * 3 + 1, none⟩) h2).trans h4, (hb.cell (p := ⟨g, i * 3 + 2, none⟩) h2).trans h5, h6.of hb⟩
theorem TabG.tabsX {w : World} {lab : Lt} {B : Nat} {a : Option Addr} {n c : Nat} {cs : List Value} {ts : List Tb} (h : TabG w lab B (.slice a n c) cs ts) : TabsX w a ts := fun i hi => by
  obtain ⟨u, rs, c0, c1, c2, hm, hr⟩ := h.tab i ts[i] (List.getElem?_eq_getElem hi)
  rcases h.own.2 with ⟨_, h2⟩ | ⟨g, cap, cur, h1, _, h3, _⟩
  · omega
  · have ho := h.own
    rw [h1] at ho
    simp only [Value.slice.injEq] at h1
    obtain ⟨ua, uc, hu⟩ : ∃ ua uc, u = .slice ua rs.length uc := by
      rcases hr.1.2 with ⟨k1, k2⟩ | ⟨g', cap', cur', k1, _⟩
      · exact ⟨none, 0, by rw [k1, k2]⟩
      · exact ⟨_, _, k1⟩
    have hl : rs.length = (ts[i]).Rows.length := by rw [← hm]; simp
    refine ⟨g, ua, uc, h1.1, (Array.getElem?_eq_some_iff.1 h3).1, by rw [ho.cellAt _ (by omega)]; exact c0, by rw [ho.cellAt _ (by omega)]; exact c1, by rw [ho.cellAt _ (by omega), c2, hu, hl], fun j hj => ?_⟩
    rcases hr.1.2 with ⟨_, k2⟩ | ⟨G, cap', cur', k1, _, k3, _⟩
    · omega
    · have hoR := hr.1
      rw [k1] at hoR
      rw [hu] at k1
      simp only [Value.slice.injEq] at k1
      have hj' : j < rs.length := by omega
      refine ⟨G, some ⟨(rs[j]).1, 0, none⟩, (rs[j]).2.1, k1.1, (Array.getElem?_eq_some_iff.1 k3).1, ?_⟩
      have e : (ts[i]).Rows[j] = kR rs[j] := by
        have : (rs.map kR)[j]'(by simpa using hj') = (ts[i]).Rows[j] := by simp only [hm]
        rw [← this]; simp
      rw [hoR.cellAt j (by omega), List.getElem?_map, List.getElem?_eq_getElem hj', e]
      rfl
end Go.Proofs.YtbbjhepagkkjeaaGreatDoor
namespace Go.Proofs.YtbbjhepagkkjeaaGreatDoor
open Go Go.RowKit
def TbOk (t : Tb) : Prop := NameB t.Name ∧ 1 ≤ t.Cols ∧ t.Cols ≤ 16 ∧ ∀ xs ∈ t.Rows, (xs.length : Int) = t.Cols
def Diff (ts : List Tb) (k : Nat) : Prop := ∀ (i j : Nat) (hi : i < ts.length) (hj : j < ts.length), i < j → j < k → (ts[i]).Name.toList ≠ (ts[j]).Name.toList
theorem fidx_diff (ts : List Tb) : (∀ (i : Nat) (hi : i < ts.length), fidx ts (ts[i]).Name.toList = (i : Int)) ↔ Diff ts ts.length := by
  constructor
  · intro h i j hi hj hij _ e
    have h1 := h i hi
    have h2 := h j hj
    rw [e] at h1
    omega
  · intro h i hi
    exact fidx_at hi (fun j hj hji => h j i hj hi hji hi) rfl
theorem dbV_iff (ts : List Tb) : DbV ts ↔ (ts.length ≤ 50 ∧ (∀ (i : Nat) (hi : i < ts.length), TbOk ts[i]) ∧ sumR ts ≤ 1000 ∧ Diff ts ts.length) := by
  rw [← fidx_diff]
  constructor
  · intro h
    exact ⟨h.few, fun i hi => ⟨(h.each i hi).1, (h.each i hi).2.1, (h.each i hi).2.2.1, (h.each i hi).2.2.2.2⟩, h.rows, fun i hi => (h.each i hi).2.2.2.1⟩
  · rintro ⟨h1, h2, h3, h4⟩
    exact ⟨h1, fun i hi => ⟨(h2 i hi).1, (h2 i hi).2.1, (h2 i hi).2.2.1, h4 i hi, (h2 i hi).2.2.2⟩, h3⟩
theorem keyLit (l : List UInt8) : WideAt.IsKeyLit (.string l) := trivial
structure MapIn (D : DataW Unit) (ts : List Tb) (k : Nat) : Prop where
  keys : ∀ l, Maps.has D (.string l) = true ↔ ∃ j, ∃ hj : j < ts.length, j < k ∧ (ts[j]).Name.data.toList = l
  size : Maps.size D ≤ k
  all : Maps.size D = k ↔ Diff ts k
theorem MapIn.start (ts : List Tb) : MapIn (.map []) ts 0 :=
  ⟨fun l => ⟨fun h => by simp [Maps.has] at h, fun ⟨j, _, h, _⟩ => by omega⟩, by simp [Maps.size], ⟨fun _ i j _ _ _ h => by omega, fun _ => rfl⟩⟩
theorem diff_succ {ts : List Tb} {k : Nat} (hk : k < ts.length) : Diff ts (k + 1) ↔ (Diff ts k ∧ ∀ (j : Nat) (hj : j < ts.length), j < k → (ts[j]).Name.toList ≠ (ts[k]).Name.toList) := by
  constructor
  · intro h
    exact ⟨fun i j hi hj h1 h2 => h i j hi hj h1 (by omega), fun j hj h1 => h j k hj hk h1 (by omega)⟩
  · rintro ⟨h1, h2⟩ i j hi hj h3 h4
    by_cases e : j = k
    · subst e; exact h2 i hi h3
    · exact h1 i j hi hj h3 (by omega)
theorem toList_data (s : ByteArray) : s.toList = s.data.toList := Go.ByteArray.toList_eq s
theorem MapIn.put {D : DataW Unit} {ts : List Tb} {k : Nat} (h : MapIn D ts k) (hk : k < ts.length) (ht : Maps.Tidy D) (d : DataW Unit) : MapIn (D.put (.string (ts[k]).Name.data.toList) d) ts (k + 1) := by
  have hin : Maps.has D (.string (ts[k]).Name.data.toList) = true ↔ ¬ ∀ (j : Nat) (hj : j < ts.length), j < k → (ts[j]).Name.toList ≠ (ts[k]).Name.toList := by
    rw [h.keys]
    constructor
    · rintro ⟨j, hj, h1, h2⟩ hh
      exact hh j hj h1 (by rw [toList_data, toList_data, h2])
    · intro hh
      by_cases e : ∃ j, ∃ hj : j < ts.length, j < k ∧ (ts[j]).Name.data.toList = (ts[k]).Name.data.toList
      · exact e
      · exact absurd (fun j hj h1 h2 => e ⟨j, hj, h1, by rw [← toList_data, ← toList_data, h2]⟩) hh
  refine ⟨fun l => ?_, ?_, ?_⟩
  · by_cases e : l = (ts[k]).Name.data.toList
    · subst e
      rw [Maps.has_put_same ht.isMap (keyLit _)]
      exact ⟨fun _ => ⟨k, hk, by omega, rfl⟩, fun _ => rfl⟩
    · rw [Maps.has_put_other (by intro e'; exact e (by simpa using e')), h.keys]
      constructor
      · rintro ⟨j, hj, h1, h2⟩
        exact ⟨j, hj, by omega, h2⟩
      · rintro ⟨j, hj, h1, h2⟩
        refine ⟨j, hj, ?_, h2⟩
        by_cases e2 : j = k
        · subst e2; exact absurd h2.symm e
        · omega
  · rw [Maps.size_put ht]
    have := h.size
    split <;> omega
  · rw [Maps.size_put ht, diff_succ hk]
    have h1 := h.size
    have h2 := h.all
    by_cases e : Maps.has D (.string (ts[k]).Name.data.toList) = true
    · rw [if_pos e]
      exact ⟨fun h' => by omega, fun h' => absurd h'.2 (hin.1 e)⟩
    · rw [if_neg e]
      have h3 : ∀ (j : Nat) (hj : j < ts.length), j < k → (ts[j]).Name.toList ≠ (ts[k]).Name.toList := Classical.byContradiction fun hh => e (hin.2 hh)
      constructor
      · intro h'
        exact ⟨h2.1 (by omega), h3⟩
      · rintro ⟨h', _⟩
        have := h2.2 h'
        omega
end Go.Proofs.YtbbjhepagkkjeaaGreatDoor
