import Derived.Test.YtnchcndcinpalaaGreatDoorQ6
import Derived.Test.YtnchcndcinpalaaGreatDoorQ24
import Derived.Test.YtnchcndcinpalaaGreatDoorQ15
namespace Go.Proofs.YtnchcndcinpalaaGreatDoor
open Go Go.RowKit
def pf (K : Int) : List Bool :=
  if K = 2 then [true, false, false, false, false, false, false, false] else if K = 3 then [false, false, true, false, true, false, false, false] else if K = 4 then [false, false, false, true, true, false, false, false] else if K = 5 then [false, false, false, false, true, true, false, false] else if K = 6 then [false, false, false, false, true, true, true, false] else if K = 7 then [false, false, true, false, true, true, true, false] else if K = 8 then [false, true, true, false, true, true, true, false] else if K = 9 then [false, false, false, false, true, false, false, false] else if K = 10 then [false, false, false, false, true, true, false, false] else [false, false, false, false, false, false, false, false]
def pfb (K : Int) (i : Nat) : Bool := (pf K).getD i false
abbrev TPlan (w : World) : Prop := TabAt w 1 [.bool false, .bool false, .bool false, .bool false, .bool false, .bool false, .bool false, .bool false, .bool false, .bool false, .bool false, .bool false, .bool false, .bool false, .bool false, .bool false, .bool true, .bool false, .bool false, .bool false, .bool false, .bool false, .bool false, .bool false, .bool false, .bool false, .bool true, .bool false, .bool true, .bool false, .bool false, .bool false, .bool false, .bool false, .bool false, .bool true, .bool true, .bool false, .bool false, .bool false, .bool false, .bool false, .bool false, .bool false, .bool true, .bool true, .bool false, .bool false, .bool false, .bool false, .bool false, .bool false, .bool true, .bool true, .bool true, .bool false, .bool false, .bool false, .bool true, .bool false, .bool true, .bool true, .bool true, .bool false, .bool false, .bool true, .bool true, .bool false, .bool true, .bool true, .bool true, .bool false, .bool false, .bool false, .bool false, .bool false, .bool true, .bool false, .bool false, .bool false, .bool false, .bool false, .bool false, .bool false, .bool true, .bool true, .bool false, .bool false]
theorem p_look {w : World} (h : TPlan w) (K : Int) (h1 : 1 ≤ K) (h2 : K ≤ 10) : w.cell? ⟨1, K.toNat * 8, none⟩ = some (.bool (pfb K 0)) ∧ w.cell? ⟨1, K.toNat * 8 + 1, none⟩ = some (.bool (pfb K 1)) ∧ w.cell? ⟨1, K.toNat * 8 + 2, none⟩ = some (.bool (pfb K 2)) ∧ w.cell? ⟨1, K.toNat * 8 + 3, none⟩ = some (.bool (pfb K 3)) ∧ w.cell? ⟨1, K.toNat * 8 + 4, none⟩ = some (.bool (pfb K 4)) ∧ w.cell? ⟨1, K.toNat * 8 + 5, none⟩ = some (.bool (pfb K 5)) ∧ w.cell? ⟨1, K.toNat * 8 + 6, none⟩ = some (.bool (pfb K 6)) ∧ w.cell? ⟨1, K.toNat * 8 + 7, none⟩ = some (.bool (pfb K 7)) := by
  have e : K = 1 ∨ K = 2 ∨ K = 3 ∨ K = 4 ∨ K = 5 ∨ K = 6 ∨ K = 7 ∨ K = 8 ∨ K = 9 ∨ K = 10 := by omega
  rw [h.cell, h.cell, h.cell, h.cell, h.cell, h.cell, h.cell, h.cell]
  rcases e with rfl | rfl | rfl | rfl | rfl | rfl | rfl | rfl | rfl | rfl <;> exact ⟨rfl, rfl, rfl, rfl, rfl, rfl, rfl, rfl⟩
theorem p_words {K : Int} (h1 : 1 ≤ K) (h2 : K ≤ 10) : (pfb K 0 = true ↔ K = 2) ∧ (pfb K 1 = true ↔ K = 8) ∧ (pfb K 2 = true ↔ (K = 3 ∨ K = 7 ∨ K = 8)) ∧ (pfb K 3 = true ↔ K = 4) ∧ (pfb K 4 = true ↔ arity K ≠ 0) ∧ (pfb K 5 = true ↔ arity K = 2) ∧ (pfb K 6 = true ↔ perRow K) := by
  have e : K = 1 ∨ K = 2 ∨ K = 3 ∨ K = 4 ∨ K = 5 ∨ K = 6 ∨ K = 7 ∨ K = 8 ∨ K = 9 ∨ K = 10 := by omega
  rcases e with rfl | rfl | rfl | rfl | rfl | rfl | rfl | rfl | rfl | rfl <;> decide
theorem pUses {K : Int} (h1 : 1 ≤ K) (h2 : K ≤ 10) (M : Int) : (pfb K 2 && (M != 1)) = decide (usesEx K M) := by
  rw [Bool.eq_iff_iff, Bool.and_eq_true, (p_words h1 h2).2.2.1, decide_eq_true_iff]
  simp [usesEx]
set_option maxHeartbeats 2000000 in
theorem planKids_none (K T M L R : Int) (v3 v4 : Value) (w : World) (h1 : 1 ≤ K) (h2 : K ≤ 10) (ha : arity K = 0) (hT : TPlan w) :
    Calls Tryz.prog 115 #[.agg #[.int .i64 K, .int .i64 T, .int .i64 M, v3, v4, .int .i64 L, .int .i64 R]] w fun e w' => e = .returned (.slice none 0 0) ∧ Below w.heap.size w w' := by
  have hB0 := bA (Below.refl w.heap.size w) (.cells #[.int .i64 K, .int .i64 T, .int .i64 M, v3, v4, .int .i64 L, .int .i64 R] 130)
  have hT1 := hT.of hB0
  obtain ⟨t0, t1, t2, t3, t4, t5, t6, t7⟩ := p_look hT1 K h1 h2
  have hz := hT1.size
  have k0 : (0 : Int) ≤ K := by omega
  have k11 : K < 11 := by omega
  obtain ⟨_, _, _, _, h4, h5, _⟩ := p_words h1 h2
  have e4 : pfb K 4 = false := Bool.eq_false_iff.2 (fun h => h4.1 h ha)
  rw [e4] at t4
  have e5 : pfb K 5 = false := Bool.eq_false_iff.2 (fun h => by have := h5.1 h; omega)
  rw [e5] at t5
  clear h4 h5 e4 e5
  obtain ⟨n0, n1, n2, n3, n4, n5, n6⟩ := (fun Q (hQ : (w.alloc (.cells #[.int .i64 K, .int .i64 T, .int .i64 M, v3, v4, .int .i64 L, .int .i64 R] 130)) = Q) => (by subst hQ; exact ⟨by simp [go_sem], by simp [go_sem], by simp [go_sem], by simp [go_sem], by simp [go_sem], by simp [go_sem], by simp [go_sem]⟩ : Q.cell? ⟨w.heap.size, 0, none⟩ = some (.int .i64 K) ∧ Q.cell? ⟨w.heap.size, 1, none⟩ = some (.int .i64 T) ∧ Q.cell? ⟨w.heap.size, 2, none⟩ = some (.int .i64 M) ∧ Q.cell? ⟨w.heap.size, 3, none⟩ = some (v3) ∧ Q.cell? ⟨w.heap.size, 4, none⟩ = some (v4) ∧ Q.cell? ⟨w.heap.size, 5, none⟩ = some (.int .i64 L) ∧ Q.cell? ⟨w.heap.size, 6, none⟩ = some (.int .i64 R))) _ rfl
  have z4 : w.heap.size < (w.alloc (.cells #[.int .i64 K, .int .i64 T, .int .i64 M, v3, v4, .int .i64 L, .int .i64 R] 130)).heap.size := by simp
  have HB0 := hide hB0
  clear hT hT1 ha hB0
  obtain ⟨p0, hp0⟩ : ∃ b, pfb K 0 = b := ⟨_, rfl⟩
  rw [hp0] at t0
  clear hp0
  obtain ⟨p1, hp1⟩ : ∃ b, pfb K 1 = b := ⟨_, rfl⟩
  rw [hp1] at t1
  clear hp1
  obtain ⟨p2, hp2⟩ : ∃ b, pfb K 2 = b := ⟨_, rfl⟩
  rw [hp2] at t2
  clear hp2
  obtain ⟨p3, hp3⟩ : ∃ b, pfb K 3 = b := ⟨_, rfl⟩
  rw [hp3] at t3
  clear hp3
  obtain ⟨p6, hp6⟩ : ∃ b, pfb K 6 = b := ⟨_, rfl⟩
  rw [hp6] at t6
  clear hp6
  obtain ⟨p7, hp7⟩ : ∃ b, pfb K 7 = b := ⟨_, rfl⟩
  rw [hp7] at t7
  clear hp7
  have RX := hide (fun W => fKids_none p0 p1 p2 p3 p6 p7 L R W)
  go_enter Tryz.func115, Tryz.ntmps115
  go_upto_region 1 with fail
  generalize (w.alloc (.cells #[.int .i64 K, .int .i64 T, .int .i64 M, v3, v4, .int .i64 L, .int .i64 R] 130)) = Wb at *
  generalize hbx : w.heap.size = bx at *
  have HBX := hide hbx
  clear hbx
  refine wp_region_held_drew (S := Std Wb) (by kernel_rfl) (Std.drew (Std.refl _)) (fun hHeld => ?_)
  refine tW 0 3 (.pointer (some ⟨bx, 0, none⟩)) ?_
  simp only [puts]
  refine tW 1 4 (.int .i64 K) ?_
  simp only [puts]
  refine tW 2 5 (.pointer (some ⟨1, K.toNat * 8, none⟩)) ?_
  simp only [puts]
  refine tW 3 6 (.agg #[.bool p0, .bool p1, .bool p2, .bool p3, .bool false, .bool false, .bool p6, .bool p7]) ?_
  simp only [puts]
  refine tW 4 7 (.pointer (some ⟨bx, 5, none⟩)) ?_
  simp only [puts]
  refine tW 5 8 (.int .i64 L) ?_
  simp only [puts]
  refine tW 6 9 (.pointer (some ⟨bx, 6, none⟩)) ?_
  simp only [puts]
  refine tW 7 10 (.int .i64 R) ?_
  simp only [puts]
  refine wpAnyH_ready (rs := [8]) (by kernel_rfl) (by simp) ?_
  refine AllReadyH.cons rfl (fun Kx hK => ?_) AllReadyH.nil
  go_simp
  refine (unhide RX _).mono ?_
  rintro e w2 ⟨rfl, hb2⟩
  have hle := hHeld.2.2.size
  refine hK.out _ _ (Std.call (by assumption) hb2) (fun hHeld2 => ?_)
  clear hK Kx
  refine tW 9 2 (.slice none 0 0) ?_
  simp only [puts]
  refine wpAnyH_done (by kernel_rfl) ?_ _
  have hbx := unhide HBX
  have hB := bT (show Below w.heap.size w Wb by rw [hbx]; exact unhide HB0) hHeld2.2.2
  have hsw : w.heap.size ≤ Wb.heap.size := by omega
  clear hbx HBX
  go_wp2
  go_ret
  exact ⟨rfl, hB⟩
set_option maxHeartbeats 2000000 in
theorem planKids_one (K T M L R : Int) (v3 v4 : Value) (w : World) (h1 : 1 ≤ K) (h2 : K ≤ 10) (ha : arity K = 1) (hT : TPlan w) :
    Calls Tryz.prog 115 #[.agg #[.int .i64 K, .int .i64 T, .int .i64 M, v3, v4, .int .i64 L, .int .i64 R]] w fun e w' => ∃ b, e = .returned (.slice (some ⟨b, 0, none⟩) 1 1) ∧ w.heap.size ≤ b ∧ b < w'.heap.size ∧ w'.cell? ⟨b, 0, none⟩ = some (.int .i64 L) ∧ Below w.heap.size w w' := by
  have hB0 := bA (Below.refl w.heap.size w) (.cells #[.int .i64 K, .int .i64 T, .int .i64 M, v3, v4, .int .i64 L, .int .i64 R] 130)
  have hT1 := hT.of hB0
  obtain ⟨t0, t1, t2, t3, t4, t5, t6, t7⟩ := p_look hT1 K h1 h2
  have hz := hT1.size
  have k0 : (0 : Int) ≤ K := by omega
  have k11 : K < 11 := by omega
  obtain ⟨_, _, _, _, h4, h5, _⟩ := p_words h1 h2
  have e4 : pfb K 4 = true := h4.2 (by omega)
  rw [e4] at t4
  have e5 : pfb K 5 = false := Bool.eq_false_iff.2 (fun h => by have := h5.1 h; omega)
  rw [e5] at t5
  clear h4 h5 e4 e5
  obtain ⟨n0, n1, n2, n3, n4, n5, n6⟩ := (fun Q (hQ : (w.alloc (.cells #[.int .i64 K, .int .i64 T, .int .i64 M, v3, v4, .int .i64 L, .int .i64 R] 130)) = Q) => (by subst hQ; exact ⟨by simp [go_sem], by simp [go_sem], by simp [go_sem], by simp [go_sem], by simp [go_sem], by simp [go_sem], by simp [go_sem]⟩ : Q.cell? ⟨w.heap.size, 0, none⟩ = some (.int .i64 K) ∧ Q.cell? ⟨w.heap.size, 1, none⟩ = some (.int .i64 T) ∧ Q.cell? ⟨w.heap.size, 2, none⟩ = some (.int .i64 M) ∧ Q.cell? ⟨w.heap.size, 3, none⟩ = some (v3) ∧ Q.cell? ⟨w.heap.size, 4, none⟩ = some (v4) ∧ Q.cell? ⟨w.heap.size, 5, none⟩ = some (.int .i64 L) ∧ Q.cell? ⟨w.heap.size, 6, none⟩ = some (.int .i64 R))) _ rfl
  have z4 : w.heap.size < (w.alloc (.cells #[.int .i64 K, .int .i64 T, .int .i64 M, v3, v4, .int .i64 L, .int .i64 R] 130)).heap.size := by simp
  have HB0 := hide hB0
  clear hT hT1 ha hB0
  obtain ⟨p0, hp0⟩ : ∃ b, pfb K 0 = b := ⟨_, rfl⟩
  rw [hp0] at t0
  clear hp0
  obtain ⟨p1, hp1⟩ : ∃ b, pfb K 1 = b := ⟨_, rfl⟩
  rw [hp1] at t1
  clear hp1
  obtain ⟨p2, hp2⟩ : ∃ b, pfb K 2 = b := ⟨_, rfl⟩
  rw [hp2] at t2
  clear hp2
  obtain ⟨p3, hp3⟩ : ∃ b, pfb K 3 = b := ⟨_, rfl⟩
  rw [hp3] at t3
  clear hp3
  obtain ⟨p6, hp6⟩ : ∃ b, pfb K 6 = b := ⟨_, rfl⟩
  rw [hp6] at t6
  clear hp6
  obtain ⟨p7, hp7⟩ : ∃ b, pfb K 7 = b := ⟨_, rfl⟩
  rw [hp7] at t7
  clear hp7
  have RX := hide (fun W => fKids_one p0 p1 p2 p3 p6 p7 L R W)
  go_enter Tryz.func115, Tryz.ntmps115
  go_upto_region 1 with fail
  generalize (w.alloc (.cells #[.int .i64 K, .int .i64 T, .int .i64 M, v3, v4, .int .i64 L, .int .i64 R] 130)) = Wb at *
  generalize hbx : w.heap.size = bx at *
  have HBX := hide hbx
  clear hbx
  refine wp_region_held_drew (S := Std Wb) (by kernel_rfl) (Std.drew (Std.refl _)) (fun hHeld => ?_)
  refine tW 0 3 (.pointer (some ⟨bx, 0, none⟩)) ?_
  simp only [puts]
  refine tW 1 4 (.int .i64 K) ?_
  simp only [puts]
  refine tW 2 5 (.pointer (some ⟨1, K.toNat * 8, none⟩)) ?_
  simp only [puts]
  refine tW 3 6 (.agg #[.bool p0, .bool p1, .bool p2, .bool p3, .bool true, .bool false, .bool p6, .bool p7]) ?_
  simp only [puts]
  refine tW 4 7 (.pointer (some ⟨bx, 5, none⟩)) ?_
  simp only [puts]
  refine tW 5 8 (.int .i64 L) ?_
  simp only [puts]
  refine tW 6 9 (.pointer (some ⟨bx, 6, none⟩)) ?_
  simp only [puts]
  refine tW 7 10 (.int .i64 R) ?_
  simp only [puts]
  refine wpAnyH_ready (rs := [8]) (by kernel_rfl) (by simp) ?_
  refine AllReadyH.cons rfl (fun Kx hK => ?_) AllReadyH.nil
  go_simp
  refine (unhide RX _).mono ?_
  rintro e w2 ⟨b, rfl, hb, hbs, hc0, hb2⟩
  have hle := hHeld.2.2.size
  refine hK.out _ _ (Std.call (by assumption) hb2) (fun hHeld2 => ?_)
  clear hK Kx
  refine tW 9 2 (.slice (some ⟨b, 0, none⟩) 1 1) ?_
  simp only [puts]
  refine wpAnyH_done (by kernel_rfl) ?_ _
  have hbx := unhide HBX
  have hB := bT (show Below w.heap.size w Wb by rw [hbx]; exact unhide HB0) hHeld2.2.2
  have hsw : w.heap.size ≤ Wb.heap.size := by omega
  clear hbx HBX
  go_wp2
  go_ret
  exact ⟨b, rfl, by omega, hbs, hc0, hB⟩
set_option maxHeartbeats 2000000 in
theorem planKids_two (K T M L R : Int) (v3 v4 : Value) (w : World) (h1 : 1 ≤ K) (h2 : K ≤ 10) (ha : arity K = 2) (hT : TPlan w) :
    Calls Tryz.prog 115 #[.agg #[.int .i64 K, .int .i64 T, .int .i64 M, v3, v4, .int .i64 L, .int .i64 R]] w fun e w' => ∃ b, e = .returned (.slice (some ⟨b, 0, none⟩) 2 2) ∧ w.heap.size ≤ b ∧ b < w'.heap.size ∧ w'.cell? ⟨b, 0, none⟩ = some (.int .i64 R) ∧ w'.cell? ⟨b, 1, none⟩ = some (.int .i64 L) ∧ Below w.heap.size w w' := by
  have hB0 := bA (Below.refl w.heap.size w) (.cells #[.int .i64 K, .int .i64 T, .int .i64 M, v3, v4, .int .i64 L, .int .i64 R] 130)
  have hT1 := hT.of hB0
  obtain ⟨t0, t1, t2, t3, t4, t5, t6, t7⟩ := p_look hT1 K h1 h2
  have hz := hT1.size
  have k0 : (0 : Int) ≤ K := by omega
  have k11 : K < 11 := by omega
  obtain ⟨_, _, _, _, h4, h5, _⟩ := p_words h1 h2
  have e5 : pfb K 5 = true := h5.2 ha
  rw [e5] at t5
  clear h4 h5 e5
  obtain ⟨n0, n1, n2, n3, n4, n5, n6⟩ := (fun Q (hQ : (w.alloc (.cells #[.int .i64 K, .int .i64 T, .int .i64 M, v3, v4, .int .i64 L, .int .i64 R] 130)) = Q) => (by subst hQ; exact ⟨by simp [go_sem], by simp [go_sem], by simp [go_sem], by simp [go_sem], by simp [go_sem], by simp [go_sem], by simp [go_sem]⟩ : Q.cell? ⟨w.heap.size, 0, none⟩ = some (.int .i64 K) ∧ Q.cell? ⟨w.heap.size, 1, none⟩ = some (.int .i64 T) ∧ Q.cell? ⟨w.heap.size, 2, none⟩ = some (.int .i64 M) ∧ Q.cell? ⟨w.heap.size, 3, none⟩ = some (v3) ∧ Q.cell? ⟨w.heap.size, 4, none⟩ = some (v4) ∧ Q.cell? ⟨w.heap.size, 5, none⟩ = some (.int .i64 L) ∧ Q.cell? ⟨w.heap.size, 6, none⟩ = some (.int .i64 R))) _ rfl
  have z4 : w.heap.size < (w.alloc (.cells #[.int .i64 K, .int .i64 T, .int .i64 M, v3, v4, .int .i64 L, .int .i64 R] 130)).heap.size := by simp
  have HB0 := hide hB0
  clear hT hT1 ha hB0
  obtain ⟨p0, hp0⟩ : ∃ b, pfb K 0 = b := ⟨_, rfl⟩
  rw [hp0] at t0
  clear hp0
  obtain ⟨p1, hp1⟩ : ∃ b, pfb K 1 = b := ⟨_, rfl⟩
  rw [hp1] at t1
  clear hp1
  obtain ⟨p2, hp2⟩ : ∃ b, pfb K 2 = b := ⟨_, rfl⟩
  rw [hp2] at t2
  clear hp2
  obtain ⟨p3, hp3⟩ : ∃ b, pfb K 3 = b := ⟨_, rfl⟩
  rw [hp3] at t3
  clear hp3
  obtain ⟨p4, hp4⟩ : ∃ b, pfb K 4 = b := ⟨_, rfl⟩
  rw [hp4] at t4
  clear hp4
  obtain ⟨p6, hp6⟩ : ∃ b, pfb K 6 = b := ⟨_, rfl⟩
  rw [hp6] at t6
  clear hp6
  obtain ⟨p7, hp7⟩ : ∃ b, pfb K 7 = b := ⟨_, rfl⟩
  rw [hp7] at t7
  clear hp7
  have RX := hide (fun W => fKids_two p0 p1 p2 p3 p4 p6 p7 L R W)
  go_enter Tryz.func115, Tryz.ntmps115
  go_upto_region 1 with fail
  generalize (w.alloc (.cells #[.int .i64 K, .int .i64 T, .int .i64 M, v3, v4, .int .i64 L, .int .i64 R] 130)) = Wb at *
  generalize hbx : w.heap.size = bx at *
  have HBX := hide hbx
  clear hbx
  refine wp_region_held_drew (S := Std Wb) (by kernel_rfl) (Std.drew (Std.refl _)) (fun hHeld => ?_)
  refine tW 0 3 (.pointer (some ⟨bx, 0, none⟩)) ?_
  simp only [puts]
  refine tW 1 4 (.int .i64 K) ?_
  simp only [puts]
  refine tW 2 5 (.pointer (some ⟨1, K.toNat * 8, none⟩)) ?_
  simp only [puts]
  refine tW 3 6 (.agg #[.bool p0, .bool p1, .bool p2, .bool p3, .bool p4, .bool true, .bool p6, .bool p7]) ?_
  simp only [puts]
  refine tW 4 7 (.pointer (some ⟨bx, 5, none⟩)) ?_
  simp only [puts]
  refine tW 5 8 (.int .i64 L) ?_
  simp only [puts]
  refine tW 6 9 (.pointer (some ⟨bx, 6, none⟩)) ?_
  simp only [puts]
  refine tW 7 10 (.int .i64 R) ?_
  simp only [puts]
  refine wpAnyH_ready (rs := [8]) (by kernel_rfl) (by simp) ?_
  refine AllReadyH.cons rfl (fun Kx hK => ?_) AllReadyH.nil
  go_simp
  refine (unhide RX _).mono ?_
  rintro e w2 ⟨b, rfl, hb, hbs, hc0, hc1, hb2⟩
  have hle := hHeld.2.2.size
  refine hK.out _ _ (Std.call (by assumption) hb2) (fun hHeld2 => ?_)
  clear hK Kx
  refine tW 9 2 (.slice (some ⟨b, 0, none⟩) 2 2) ?_
  simp only [puts]
  refine wpAnyH_done (by kernel_rfl) ?_ _
  have hbx := unhide HBX
  have hB := bT (show Below w.heap.size w Wb by rw [hbx]; exact unhide HB0) hHeld2.2.2
  have hsw : w.heap.size ≤ Wb.heap.size := by omega
  clear hbx HBX
  go_wp2
  go_ret
  exact ⟨b, rfl, by omega, hbs, hc0, hc1, hB⟩
end Go.Proofs.YtnchcndcinpalaaGreatDoor
