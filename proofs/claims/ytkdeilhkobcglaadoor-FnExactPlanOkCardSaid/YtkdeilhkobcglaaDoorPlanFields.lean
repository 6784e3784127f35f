import Derived.Test.YtkdeilhkobcglaaDoorPlanSmall
import Derived.Test.YtkdeilhkobcglaaDoorGFld
import Derived.BigQuiet
/-
  THE FIELDS OF A PLAN's NODE, as the program judges them.
-/
namespace Go.Proofs.YtkdeilhkobcglaaDoor
open Go Go.RowKit

def FldN (nt : Nat) (K T M : Int) (le ls : Nat) (L R : Int) : Prop := 1 ≤ K ∧ K ≤ 10 ∧ usedP nt K T M le ls ∧ (arity K = 0 → L = 0) ∧ (arity K ≠ 2 → R = 0)
theorem fldV_iff (nt : Nat) (p : Pn) : FldV nt p ↔ FldN nt p.K p.T p.M p.Ex.length p.Exs.length p.L p.R := Iff.rfl
theorem fldN_iff {nt : Nat} {K T M : Int} {le ls : Nat} {L R : Int} (h1 : 1 ≤ K) (h2 : K ≤ 10) : FldN nt K T M le ls L R ↔ FitH (pfb K 0) (pfb K 1) (pfb K 2) (pfb K 3) (pfb K 4) (pfb K 5) nt T M le ls L R := by
  have e : K = 1 ∨ K = 2 ∨ K = 3 ∨ K = 4 ∨ K = 5 ∨ K = 6 ∨ K = 7 ∨ K = 8 ∨ K = 9 ∨ K = 10 := by omega
  unfold FldN usedP FitH nOk
  rcases e with rfl | rfl | rfl | rfl | rfl | rfl | rfl | rfl | rfl | rfl <;> simp [pfb, pf, arity] <;> omega

set_option maxRecDepth 100000 in
set_option maxHeartbeats 8000000 in
theorem fieldsOk_calls (nt : Nat) (K T M L R : Int) (le ls : Nat) (a3 a4 : Option Addr) (c3 c4 : Nat) (w : World) (hnt : nt ≤ 1048576) (l2 : le ≤ 1048576) (l3 : ls ≤ 1048576) (hT : TPlan w) :
    Calls Tryd.prog 50 #[.agg #[.int .i64 K, .int .i64 T, .int .i64 M, .slice a3 le c3, .slice a4 ls c4, .int .i64 L, .int .i64 R], .int .i64 (nt : Int)] w fun e w' => e = .returned (.bool (dB (FldN nt K T M le ls L R))) ∧ Below w.heap.size w w' := by
  have hB0 := bA (Below.refl w.heap.size w) (.cells #[.int .i64 K, .int .i64 T, .int .i64 M, .slice a3 le c3, .slice a4 ls c4, .int .i64 L, .int .i64 R] 93)
  have n0 : (w.alloc (.cells #[.int .i64 K, .int .i64 T, .int .i64 M, .slice a3 le c3, .slice a4 ls c4, .int .i64 L, .int .i64 R] 93)).cell? ⟨w.heap.size, 0, none⟩ = some (.int .i64 K) := by simp [go_sem]
  have n1 : (w.alloc (.cells #[.int .i64 K, .int .i64 T, .int .i64 M, .slice a3 le c3, .slice a4 ls c4, .int .i64 L, .int .i64 R] 93)).cell? ⟨w.heap.size, 1, none⟩ = some (.int .i64 T) := by simp [go_sem]
  have n2 : (w.alloc (.cells #[.int .i64 K, .int .i64 T, .int .i64 M, .slice a3 le c3, .slice a4 ls c4, .int .i64 L, .int .i64 R] 93)).cell? ⟨w.heap.size, 2, none⟩ = some (.int .i64 M) := by simp [go_sem]
  have n3 : (w.alloc (.cells #[.int .i64 K, .int .i64 T, .int .i64 M, .slice a3 le c3, .slice a4 ls c4, .int .i64 L, .int .i64 R] 93)).cell? ⟨w.heap.size, 3, none⟩ = some (.slice a3 le c3) := by simp [go_sem]
  have n4 : (w.alloc (.cells #[.int .i64 K, .int .i64 T, .int .i64 M, .slice a3 le c3, .slice a4 ls c4, .int .i64 L, .int .i64 R] 93)).cell? ⟨w.heap.size, 4, none⟩ = some (.slice a4 ls c4) := by simp [go_sem]
  have n5 : (w.alloc (.cells #[.int .i64 K, .int .i64 T, .int .i64 M, .slice a3 le c3, .slice a4 ls c4, .int .i64 L, .int .i64 R] 93)).cell? ⟨w.heap.size, 5, none⟩ = some (.int .i64 L) := by simp [go_sem]
  have n6 : (w.alloc (.cells #[.int .i64 K, .int .i64 T, .int .i64 M, .slice a3 le c3, .slice a4 ls c4, .int .i64 L, .int .i64 R] 93)).cell? ⟨w.heap.size, 6, none⟩ = some (.int .i64 R) := by simp [go_sem]
  have z4 : w.heap.size < (w.alloc (.cells #[.int .i64 K, .int .i64 T, .int .i64 M, .slice a3 le c3, .slice a4 ls c4, .int .i64 L, .int .i64 R] 93)).heap.size := by simp
  by_cases h1 : K < 1
  · have HE : Hid (dB (FldN nt K T M le ls L R) = false) := dB_false (fun h => by have := h.1; omega)
    generalize dB (FldN nt K T M le ls L R) = E at *
    have k1 : ¬ 1 ≤ K := by omega
    have HB0 := hide hB0
    clear hT hB0
    go_enter Tryd.func50, Tryd.ntmps50
    go_upto_region 1 with fail
    go_quiet (fail)
    go_wp2
    go_ret
    exact ⟨congrArg (fun z => Ending.returned (.bool z)) HE.out.symm, below_drewN (unhide HB0) _⟩
  by_cases h2 : 10 < K
  · have HE : Hid (dB (FldN nt K T M le ls L R) = false) := dB_false (fun h => by have := h.2.1; omega)
    generalize dB (FldN nt K T M le ls L R) = E at *
    have k1 : 1 ≤ K := by omega
    have k2 : ¬ K ≤ 10 := by omega
    have HB0 := hide hB0
    clear hT hB0
    go_enter Tryd.func50, Tryd.ntmps50
    go_upto_region 1 with fail
    go_quiet (fail)
    go_wp2
    go_ret
    exact ⟨congrArg (fun z => Ending.returned (.bool z)) HE.out.symm, below_drewN (unhide HB0) _⟩
  have HE := hide (dB_congr (fldN_iff (nt := nt) (T := T) (M := M) (le := le) (ls := ls) (L := L) (R := R) (show 1 ≤ K by omega) (show K ≤ 10 by omega)))
  have RX := hide (fun W => fit_calls (pfb K 0) (pfb K 1) (pfb K 2) (pfb K 3) (pfb K 4) (pfb K 5) (pfb K 6) (pfb K 7) nt K T M L R le ls a3 a4 c3 c4 W hnt l2 l3)
  have hT1 := hT.of hB0
  obtain ⟨t0, t1, t2, t3, t4, t5, t6, t7⟩ := p_look hT1 K (by omega) (by omega)
  have hz := hT1.size
  have k0 : (0 : Int) ≤ K := by omega
  have k1 : 1 ≤ K := by omega
  have k2 : K ≤ 10 := by omega
  have k11 : K < 11 := by omega
  generalize dB (FldN nt K T M le ls L R) = E at *
  obtain ⟨E', hE'⟩ : ∃ E', dB (FitH (pfb K 0) (pfb K 1) (pfb K 2) (pfb K 3) (pfb K 4) (pfb K 5) nt T M le ls L R) = E' := ⟨_, rfl⟩
  rw [hE'] at HE RX
  have HB0 := hide hB0
  clear hT hT1 hE' hB0 h1 h2 hnt l2 l3
  generalize pfb K 0 = p0 at *
  generalize pfb K 1 = p1 at *
  generalize pfb K 2 = p2 at *
  generalize pfb K 3 = p3 at *
  generalize pfb K 4 = p4 at *
  generalize pfb K 5 = p5 at *
  generalize pfb K 6 = p6 at *
  generalize pfb K 7 = p7 at *
  go_enter Tryd.func50, Tryd.ntmps50
  go_upto_region 1 with fail
  generalize (w.alloc (.cells #[.int .i64 K, .int .i64 T, .int .i64 M, .slice a3 le c3, .slice a4 ls c4, .int .i64 L, .int .i64 R] 93)) = Wb at *
  generalize hbx : w.heap.size = bx at *
  have HBX := hide hbx
  clear hbx
  refine wp_region_held_drew (S := Std Wb) (by kernel_rfl) (Std.drew (Std.refl _)) (fun hHeld => ?_)
  refine takeW 0 5 (.pointer (some ⟨bx, 0, none⟩)) rfl rfl (by kernel_rfl) (by kernel_rfl) (by kernel_rfl) (fun _ _ _ h => h) rfl (fun wx hSw => by obtain ⟨hs1, hs2⟩ := hSw; go_simp) (by assumption) ?_
  simp only [Act.put, List.setIfInBounds_toArray, List.set_cons_succ, List.set_cons_zero]
  refine takeW 1 6 (.int .i64 K) rfl rfl (by kernel_rfl) (by kernel_rfl) (by kernel_rfl) (fun _ _ _ h => h) rfl (fun wx hSw => by obtain ⟨hs1, hs2⟩ := hSw; go_simp) (by assumption) ?_
  simp only [Act.put, List.setIfInBounds_toArray, List.set_cons_succ, List.set_cons_zero]
  refine takeW 2 7 (.bool true) rfl rfl (by kernel_rfl) (by kernel_rfl) (by kernel_rfl) (fun _ _ _ h => h) rfl (fun wx hSw => by obtain ⟨hs1, hs2⟩ := hSw; go_simp) (by assumption) ?_
  simp only [Act.put, List.setIfInBounds_toArray, List.set_cons_succ, List.set_cons_zero]
  refine takeW 3 8 (.bool true) rfl rfl (by kernel_rfl) (by kernel_rfl) (by kernel_rfl) (fun _ _ _ h => h) rfl (fun wx hSw => by obtain ⟨hs1, hs2⟩ := hSw; go_simp) (by assumption) ?_
  simp only [Act.put, List.setIfInBounds_toArray, List.set_cons_succ, List.set_cons_zero]
  refine takeW 4 9 (.pointer (some ⟨bx, 0, none⟩)) rfl rfl (by kernel_rfl) (by kernel_rfl) (by kernel_rfl) (fun _ _ _ h => h) rfl (fun wx hSw => by obtain ⟨hs1, hs2⟩ := hSw; go_simp) (by assumption) ?_
  simp only [Act.put, List.setIfInBounds_toArray, List.set_cons_succ, List.set_cons_zero]
  refine takeW 5 10 (.int .i64 K) rfl rfl (by kernel_rfl) (by kernel_rfl) (by kernel_rfl) (fun _ _ _ h => h) rfl (fun wx hSw => by obtain ⟨hs1, hs2⟩ := hSw; go_simp) (by assumption) ?_
  simp only [Act.put, List.setIfInBounds_toArray, List.set_cons_succ, List.set_cons_zero]
  refine takeW 6 11 (.bool true) rfl rfl (by kernel_rfl) (by kernel_rfl) (by kernel_rfl) (fun _ _ _ h => h) rfl (fun wx hSw => by obtain ⟨hs1, hs2⟩ := hSw; go_simp) (by assumption) ?_
  simp only [Act.put, List.setIfInBounds_toArray, List.set_cons_succ, List.set_cons_zero]
  refine takeW 7 12 (.bool true) rfl rfl (by kernel_rfl) (by kernel_rfl) (by kernel_rfl) (fun _ _ _ h => h) rfl (fun wx hSw => by obtain ⟨hs1, hs2⟩ := hSw; go_simp) (by assumption) ?_
  simp only [Act.put, List.setIfInBounds_toArray, List.set_cons_succ, List.set_cons_zero]
  refine takeW 8 13 (.bool true) rfl rfl (by kernel_rfl) (by kernel_rfl) (by kernel_rfl) (fun _ _ _ h => h) rfl (fun wx hSw => by obtain ⟨hs1, hs2⟩ := hSw; go_simp) (by assumption) ?_
  simp only [Act.put, List.setIfInBounds_toArray, List.set_cons_succ, List.set_cons_zero]
  refine takeW 9 14 (.pointer (some ⟨bx, 0, none⟩)) rfl rfl (by kernel_rfl) (by kernel_rfl) (by kernel_rfl) (fun _ _ _ h => h) rfl (fun wx hSw => by obtain ⟨hs1, hs2⟩ := hSw; go_simp) (by assumption) ?_
  simp only [Act.put, List.setIfInBounds_toArray, List.set_cons_succ, List.set_cons_zero]
  refine takeW 10 15 (.int .i64 K) rfl rfl (by kernel_rfl) (by kernel_rfl) (by kernel_rfl) (fun _ _ _ h => h) rfl (fun wx hSw => by obtain ⟨hs1, hs2⟩ := hSw; go_simp) (by assumption) ?_
  simp only [Act.put, List.setIfInBounds_toArray, List.set_cons_succ, List.set_cons_zero]
  refine takeW 11 16 (.pointer (some ⟨0, K.toNat * 8, none⟩)) rfl rfl (by kernel_rfl) (by kernel_rfl) (by kernel_rfl) (fun _ _ _ h => h) rfl (fun wx hSw => by obtain ⟨hs1, hs2⟩ := hSw; go_simp) (by assumption) ?_
  simp only [Act.put, List.setIfInBounds_toArray, List.set_cons_succ, List.set_cons_zero]
  refine takeW 12 17 (.agg #[.bool p0, .bool p1, .bool p2, .bool p3, .bool p4, .bool p5, .bool p6, .bool p7]) rfl rfl (by kernel_rfl) (by kernel_rfl) (by kernel_rfl) (fun _ _ _ h => h) rfl (fun wx hSw => by obtain ⟨hs1, hs2⟩ := hSw; go_simp) (by assumption) ?_
  simp only [Act.put, List.setIfInBounds_toArray, List.set_cons_succ, List.set_cons_zero]
  refine takeW 13 18 (.agg #[.int .i64 K, .int .i64 T, .int .i64 M, .slice a3 le c3, .slice a4 ls c4, .int .i64 L, .int .i64 R]) rfl rfl (by kernel_rfl) (by kernel_rfl) (by kernel_rfl) (fun _ _ _ h => h) rfl (fun wx hSw => by obtain ⟨hs1, hs2⟩ := hSw; go_simp) (by assumption) ?_
  simp only [Act.put, List.setIfInBounds_toArray, List.set_cons_succ, List.set_cons_zero]
  refine takeW 14 19 (.int .i64 (nt : Int)) rfl rfl (by kernel_rfl) (by kernel_rfl) (by kernel_rfl) (fun _ _ _ h => h) rfl (fun wx hSw => by obtain ⟨hs1, hs2⟩ := hSw; go_simp) (by assumption) ?_
  simp only [Act.put, List.setIfInBounds_toArray, List.set_cons_succ, List.set_cons_zero]
  refine wpAnyH_ready (rs := [15]) (by kernel_rfl) (by simp) ?_
  refine AllReadyH.cons rfl (fun Kx hK => ?_) AllReadyH.nil
  go_simp
  refine (unhide RX _).mono ?_
  rintro e w2 ⟨rfl, hb2⟩
  refine hK.out _ _ (Std.call (by assumption) hb2) (fun hHeld2 => ?_)
  clear hK Kx
  refine takeW 16 21 (.bool E') rfl rfl (by kernel_rfl) (by kernel_rfl) (by kernel_rfl) (fun _ _ _ h => h) rfl (fun wx hSw => by obtain ⟨hs1, hs2⟩ := hSw; go_simp) (by assumption) ?_
  simp only [Act.put, List.setIfInBounds_toArray, List.set_cons_succ, List.set_cons_zero]
  refine takeW 17 4 (.bool E') rfl rfl (by kernel_rfl) (by kernel_rfl) (by kernel_rfl) (fun _ _ _ h => h) rfl (fun wx hSw => by obtain ⟨hs1, hs2⟩ := hSw; go_simp) (by assumption) ?_
  simp only [Act.put, List.setIfInBounds_toArray, List.set_cons_succ, List.set_cons_zero]
  refine wpAnyH_done (by kernel_rfl) ?_ _
  have hbx := unhide HBX
  have hB := bT (show Below w.heap.size w Wb by rw [hbx]; exact unhide HB0) hHeld2.2.2
  clear hbx HBX
  go_wp2
  go_ret
  exact ⟨congrArg (fun z => Ending.returned (.bool z)) (unhide HE).symm, hB⟩
end Go.Proofs.YtkdeilhkobcglaaDoor
