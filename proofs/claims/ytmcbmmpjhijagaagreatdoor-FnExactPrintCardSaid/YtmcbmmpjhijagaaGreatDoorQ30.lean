import Derived.Test.YtmcbmmpjhijagaaGreatDoorQ27
import Derived.Test.YtmcbmmpjhijagaaGreatDoorQ8
import Derived.BigQuiet
namespace Go.Proofs.YtmcbmmpjhijagaaGreatDoor
open Go Go.RowKit
set_option maxRecDepth 100000 in
set_option maxHeartbeats 4000000 in
theorem tree_1 {N M : Int} {S T : ByteArray} {ka : Option Addr} {kn kc : Nat} {w : World} {sa : Option Addr} {sn sc : Nat} :
    Calls Tryz.prog 45 #[.agg #[.int .i64 1, .int .i64 N, .int .i64 M, .string S, .string T, .slice ka kn kc], .slice sa sn sc] w fun e w' => e = .returned (.iface 66 (.agg #[.int .i64 N])) ∧ Below w.heap.size w w' := by
  go_enter Tryz.func45, Tryz.ntmps45
  go_wp2
  go_returns
  exact ⟨rfl, by first | exact bA (Below.refl _ _) _ | exact bT (bA (Below.refl _ _) _) (below_drewN _ _)⟩
set_option maxRecDepth 100000 in
set_option maxHeartbeats 4000000 in
theorem tree_2 {N M : Int} {S T : ByteArray} {ka : Option Addr} {kn kc : Nat} {w : World} {sa : Option Addr} {sn sc : Nat} :
    Calls Tryz.prog 45 #[.agg #[.int .i64 2, .int .i64 N, .int .i64 M, .string S, .string T, .slice ka kn kc], .slice sa sn sc] w fun e w' => e = .returned (.iface 70 (.agg #[])) ∧ Below w.heap.size w w' := by
  go_enter Tryz.func45, Tryz.ntmps45
  go_wp2
  go_returns
  exact ⟨rfl, by first | exact bA (Below.refl _ _) _ | exact bT (bA (Below.refl _ _) _) (below_drewN _ _)⟩
set_option maxRecDepth 100000 in
set_option maxHeartbeats 4000000 in
theorem tree_3 {N M : Int} {S T : ByteArray} {ka : Option Addr} {kn kc : Nat} {w : World} {sa : Option Addr} {sn sc : Nat} :
    Calls Tryz.prog 45 #[.agg #[.int .i64 3, .int .i64 N, .int .i64 M, .string S, .string T, .slice ka kn kc], .slice sa sn sc] w fun e w' => e = .returned (.iface 72 (.agg #[.string S, .int .i64 N])) ∧ Below w.heap.size w w' := by
  go_enter Tryz.func45, Tryz.ntmps45
  go_wp2
  go_returns
  exact ⟨rfl, by first | exact bA (Below.refl _ _) _ | exact bT (bA (Below.refl _ _) _) (below_drewN _ _)⟩
set_option maxRecDepth 100000 in
set_option maxHeartbeats 4000000 in
theorem tree_5 {N M : Int} {S T : ByteArray} {ka : Option Addr} {kn kc : Nat} {w : World} {sa : Option Addr} {sn sc : Nat} :
    Calls Tryz.prog 45 #[.agg #[.int .i64 5, .int .i64 N, .int .i64 M, .string S, .string T, .slice ka kn kc], .slice sa sn sc] w fun e w' => e = .returned (.iface 80 (.agg #[.string S, .string T])) ∧ Below w.heap.size w w' := by
  go_enter Tryz.func45, Tryz.ntmps45
  go_wp2
  go_returns
  exact ⟨rfl, by first | exact bA (Below.refl _ _) _ | exact bT (bA (Below.refl _ _) _) (below_drewN _ _)⟩
set_option maxRecDepth 100000 in
set_option maxHeartbeats 4000000 in
theorem tree_7 {N M : Int} {S T : ByteArray} {ka : Option Addr} {kn kc : Nat} {w : World} {sa : Option Addr} {sn sc : Nat} :
    Calls Tryz.prog 45 #[.agg #[.int .i64 7, .int .i64 N, .int .i64 M, .string S, .string T, .slice ka kn kc], .slice sa sn sc] w fun e w' => e = .returned (.iface 86 (.agg #[.slice sa sn sc])) ∧ Below w.heap.size w w' := by
  go_enter Tryz.func45, Tryz.ntmps45
  go_wp2
  go_returns
  exact ⟨rfl, by first | exact bA (Below.refl _ _) _ | exact bT (bA (Below.refl _ _) _) (below_drewN _ _)⟩
set_option maxRecDepth 100000 in
set_option maxHeartbeats 4000000 in
theorem tree_10 {N M : Int} {S T : ByteArray} {ka : Option Addr} {kn kc : Nat} {w : World} {kg : Nat} {t0 : Nat} {v0 : Value} (hk : kg < w.heap.size) (hc0 : w.cell? ⟨kg, 0, none⟩ = some (.iface t0 v0)) :
    Calls Tryz.prog 45 #[.agg #[.int .i64 10, .int .i64 N, .int .i64 M, .string S, .string T, .slice ka kn kc], .slice (some ⟨kg, 0, none⟩) 1 1] w fun e w' => e = .returned (.iface 95 (.agg #[.iface t0 v0])) ∧ Below w.heap.size w w' := by
  go_enter Tryz.func45, Tryz.ntmps45
  go_wp2
  go_returns
  exact ⟨rfl, by first | exact bA (Below.refl _ _) _ | exact bT (bA (Below.refl _ _) _) (below_drewN _ _)⟩
set_option maxRecDepth 100000 in
set_option maxHeartbeats 4000000 in
theorem tree_13 {N M : Int} {S T : ByteArray} {ka : Option Addr} {kn kc : Nat} {w : World} {kg : Nat} {t0 : Nat} {v0 : Value} (hk : kg < w.heap.size) (hc0 : w.cell? ⟨kg, 0, none⟩ = some (.iface t0 v0)) :
    Calls Tryz.prog 45 #[.agg #[.int .i64 13, .int .i64 N, .int .i64 M, .string S, .string T, .slice ka kn kc], .slice (some ⟨kg, 0, none⟩) 1 1] w fun e w' => e = .returned (.iface 102 (.agg #[.iface t0 v0])) ∧ Below w.heap.size w w' := by
  go_enter Tryz.func45, Tryz.ntmps45
  go_wp2
  go_returns
  exact ⟨rfl, by first | exact bA (Below.refl _ _) _ | exact bT (bA (Below.refl _ _) _) (below_drewN _ _)⟩
set_option maxRecDepth 100000 in
set_option maxHeartbeats 4000000 in
theorem tree_14 {N M : Int} {S T : ByteArray} {ka : Option Addr} {kn kc : Nat} {w : World} {sa : Option Addr} {sn sc : Nat} :
    Calls Tryz.prog 45 #[.agg #[.int .i64 14, .int .i64 N, .int .i64 M, .string S, .string T, .slice ka kn kc], .slice sa sn sc] w fun e w' => e = .returned (.iface 104 (.agg #[.slice sa sn sc])) ∧ Below w.heap.size w w' := by
  go_enter Tryz.func45, Tryz.ntmps45
  go_wp2
  go_returns
  exact ⟨rfl, by first | exact bA (Below.refl _ _) _ | exact bT (bA (Below.refl _ _) _) (below_drewN _ _)⟩
set_option maxRecDepth 100000 in
set_option maxHeartbeats 4000000 in
theorem tree_15 {N M : Int} {S T : ByteArray} {ka : Option Addr} {kn kc : Nat} {w : World} {sa : Option Addr} {sn sc : Nat} :
    Calls Tryz.prog 45 #[.agg #[.int .i64 15, .int .i64 N, .int .i64 M, .string S, .string T, .slice ka kn kc], .slice sa sn sc] w fun e w' => e = .returned (.iface 105 (.agg #[.slice sa sn sc])) ∧ Below w.heap.size w w' := by
  go_enter Tryz.func45, Tryz.ntmps45
  go_wp2
  go_returns
  exact ⟨rfl, by first | exact bA (Below.refl _ _) _ | exact bT (bA (Below.refl _ _) _) (below_drewN _ _)⟩
end Go.Proofs.YtmcbmmpjhijagaaGreatDoor
namespace Go.Proofs.YtmcbmmpjhijagaaGreatDoor
open Go Go.RowKit
set_option maxRecDepth 100000 in
set_option maxHeartbeats 4000000 in
theorem tree_8 {N M : Int} {S T : ByteArray} {ka : Option Addr} {kn kc : Nat} {w : World} {kg : Nat} {t0 : Nat} {v0 : Value} (hk : kg < w.heap.size) (hc0 : w.cell? ⟨kg, 0, none⟩ = some (.iface t0 v0)) {t1 : Nat} {v1 : Value} (hc1 : w.cell? ⟨kg, 1, none⟩ = some (.iface t1 v1)) :
    Calls Tryz.prog 45 #[.agg #[.int .i64 8, .int .i64 N, .int .i64 M, .string S, .string T, .slice ka kn kc], .slice (some ⟨kg, 0, none⟩) 2 2] w fun e w' => e = .returned (.iface 89 (.agg #[.int .i64 M, .iface t0 v0, .iface t1 v1])) ∧ Below w.heap.size w w' := by
  go_enter Tryz.func45, Tryz.ntmps45
  go_upto_region 17 with fail
  go_quiet (fail)
  go_wp2
  go_returns
  exact ⟨rfl, by first | exact bA (Below.refl _ _) _ | exact bT (bA (Below.refl _ _) _) (below_drewN _ _)⟩
set_option maxRecDepth 100000 in
set_option maxHeartbeats 4000000 in
theorem tree_9 {N M : Int} {S T : ByteArray} {ka : Option Addr} {kn kc : Nat} {w : World} {kg : Nat} {t0 : Nat} {v0 : Value} (hk : kg < w.heap.size) (hc0 : w.cell? ⟨kg, 0, none⟩ = some (.iface t0 v0)) :
    Calls Tryz.prog 45 #[.agg #[.int .i64 9, .int .i64 N, .int .i64 M, .string S, .string T, .slice ka kn kc], .slice (some ⟨kg, 0, none⟩) 1 1] w fun e w' => e = .returned (.iface 92 (.agg #[.bool (M == 1), .iface t0 v0])) ∧ Below w.heap.size w w' := by
  go_enter Tryz.func45, Tryz.ntmps45
  go_upto_region 19 with fail
  go_quiet (fail)
  go_wp2
  go_returns
  exact ⟨rfl, by first | exact bA (Below.refl _ _) _ | exact bT (bA (Below.refl _ _) _) (below_drewN _ _)⟩
set_option maxRecDepth 100000 in
set_option maxHeartbeats 4000000 in
theorem tree_11 {N M : Int} {S T : ByteArray} {ka : Option Addr} {kn kc : Nat} {w : World} {kg : Nat} {t0 : Nat} {v0 : Value} (hk : kg < w.heap.size) (hc0 : w.cell? ⟨kg, 0, none⟩ = some (.iface t0 v0)) {t1 : Nat} {v1 : Value} (hc1 : w.cell? ⟨kg, 1, none⟩ = some (.iface t1 v1)) :
    Calls Tryz.prog 45 #[.agg #[.int .i64 11, .int .i64 N, .int .i64 M, .string S, .string T, .slice ka kn kc], .slice (some ⟨kg, 0, none⟩) 2 2] w fun e w' => e = .returned (.iface 97 (.agg #[.bool (M == 1), .iface t0 v0, .iface t1 v1])) ∧ Below w.heap.size w w' := by
  go_enter Tryz.func45, Tryz.ntmps45
  go_upto_region 23 with fail
  go_quiet (fail)
  go_wp2
  go_returns
  exact ⟨rfl, by first | exact bA (Below.refl _ _) _ | exact bT (bA (Below.refl _ _) _) (below_drewN _ _)⟩
set_option maxRecDepth 100000 in
set_option maxHeartbeats 4000000 in
theorem tree_12 {N M : Int} {S T : ByteArray} {ka : Option Addr} {kn kc : Nat} {w : World} {kg : Nat} {t0 : Nat} {v0 : Value} (hk : kg < w.heap.size) (hc0 : w.cell? ⟨kg, 0, none⟩ = some (.iface t0 v0)) {t1 : Nat} {v1 : Value} (hc1 : w.cell? ⟨kg, 1, none⟩ = some (.iface t1 v1)) :
    Calls Tryz.prog 45 #[.agg #[.int .i64 12, .int .i64 N, .int .i64 M, .string S, .string T, .slice ka kn kc], .slice (some ⟨kg, 0, none⟩) 2 2] w fun e w' => e = .returned (.iface 99 (.agg #[.int .i64 M, .int .i64 N, .iface t0 v0, .iface t1 v1])) ∧ Below w.heap.size w w' := by
  go_enter Tryz.func45, Tryz.ntmps45
  go_upto_region 25 with fail
  go_quiet (fail)
  go_wp2
  go_returns
  exact ⟨rfl, by first | exact bA (Below.refl _ _) _ | exact bT (bA (Below.refl _ _) _) (below_drewN _ _)⟩
end Go.Proofs.YtmcbmmpjhijagaaGreatDoor
namespace Go.Proofs.YtmcbmmpjhijagaaGreatDoor
open Go Go.RowKit
set_option maxRecDepth 100000 in
set_option maxHeartbeats 4000000 in
theorem tree_4 {N M : Int} {S T : ByteArray} {ka : Option Addr} {kn kc : Nat} {w : World} {sa : Option Addr} {sn sc : Nat} {Q : Value → Value → Value → Prop} (hB : ∀ W, Below w.heap.size w W → Calls Tryz.prog 65 #[.slice sa sn sc, .int .i64 N] W fun e w' => (∃ a1 n1 c1 a2 n2 c2 u, e = .returned (.agg #[.slice a1 n1 c1, .slice a2 n2 c2, u]) ∧ (u = .nilIface ∨ ∃ t v, u = .iface t v) ∧ Q (.slice a1 n1 c1) (.slice a2 n2 c2) u) ∧ Below W.heap.size W w') :
    Calls Tryz.prog 45 #[.agg #[.int .i64 4, .int .i64 N, .int .i64 M, .string S, .string T, .slice ka kn kc], .slice sa sn sc] w fun e w' => (∃ l q u, e = .returned (.iface 77 (.agg #[l, q, u, .int .i64 M])) ∧ Q l q u) ∧ Below w.heap.size w w' := by
  have HB := hide hB
  clear hB
  go_enter Tryz.func45, Tryz.ntmps45
  go_upto_region 9 with fail
  have HW : Hid (Below w.heap.size w (w.alloc (.cells #[.int .i64 4, .int .i64 N, .int .i64 M, .string S, .string T, .slice ka kn kc] 54))) := bA (Below.refl _ _) _
  refine wp_region_held_drew (S := Std (w.alloc (.cells #[.int .i64 4, .int .i64 N, .int .i64 M, .string S, .string T, .slice ka kn kc] 54))) (by kernel_rfl) (Std.drew (Std.refl _)) (fun hHeld => ?_)
  refine tW 0 27 (.slice sa sn sc) ?_
  simp only [puts]
  refine tW 1 28 (.pointer (some ⟨w.heap.size, 1, none⟩)) ?_
  simp only [puts]
  refine tW 2 29 (.int .i64 N) ?_
  simp only [puts]
  refine tW 4 31 (.pointer (some ⟨w.heap.size, 2, none⟩)) ?_
  simp only [puts]
  refine tW 5 32 (.int .i64 M) ?_
  simp only [puts]
  refine wpAnyH_ready (rs := [3]) (by kernel_rfl) (by simp) ?_
  refine AllReadyH.cons rfl (fun Kx hK => ?_) AllReadyH.nil
  go_simp
  refine (unhide HB _ (bT (unhide HW) hHeld.2.2)).mono ?_
  rintro e w2 ⟨⟨a1, n1, c1, a2, n2, c2, u, rfl, hu, hQ⟩, hb2⟩
  have HQ := hide hQ
  have HB2 : Hid (Below w.heap.size w w2) := bT (bT (unhide HW) hHeld.2.2) hb2
  clear hQ
  refine hK.out _ _ (Std.call (by assumption) hb2) (fun hHeld2 => ?_)
  clear hK Kx hb2
  rcases hu with rfl | ⟨t, v, rfl⟩
  · skip
    refine tW 6 33 (.agg #[.slice a1 n1 c1, .slice a2 n2 c2, .nilIface, .int .i64 M]) ?_
    simp only [puts]
    refine tW 7 34 (.iface 77 (.agg #[.slice a1 n1 c1, .slice a2 n2 c2, .nilIface, .int .i64 M])) ?_
    simp only [puts]
    refine tW 8 4 (.iface 77 (.agg #[.slice a1 n1 c1, .slice a2 n2 c2, .nilIface, .int .i64 M])) ?_
    simp only [puts]
    refine wpAnyH_done (by kernel_rfl) ?_ _
    clear hHeld hHeld2
    go_wp2
    go_returns
    exact ⟨⟨_, _, _, rfl, unhide HQ⟩, unhide HB2⟩
  · skip
    refine tW 6 33 (.agg #[.slice a1 n1 c1, .slice a2 n2 c2, .iface t v, .int .i64 M]) ?_
    simp only [puts]
    refine tW 7 34 (.iface 77 (.agg #[.slice a1 n1 c1, .slice a2 n2 c2, .iface t v, .int .i64 M])) ?_
    simp only [puts]
    refine tW 8 4 (.iface 77 (.agg #[.slice a1 n1 c1, .slice a2 n2 c2, .iface t v, .int .i64 M])) ?_
    simp only [puts]
    refine wpAnyH_done (by kernel_rfl) ?_ _
    clear hHeld hHeld2
    go_wp2
    go_returns
    exact ⟨⟨_, _, _, rfl, unhide HQ⟩, unhide HB2⟩
set_option maxRecDepth 100000 in
set_option maxHeartbeats 4000000 in
theorem tree_6 {N M : Int} {S T : ByteArray} {ka : Option Addr} {kn kc : Nat} {w : World} {sa : Option Addr} {sn sc : Nat} {Q : Value → Value → Value → Prop} (hB : ∀ W, Below w.heap.size w W → Calls Tryz.prog 65 #[.slice sa sn sc, .int .i64 N] W fun e w' => (∃ a1 n1 c1 a2 n2 c2 u, e = .returned (.agg #[.slice a1 n1 c1, .slice a2 n2 c2, u]) ∧ (u = .nilIface ∨ ∃ t v, u = .iface t v) ∧ Q (.slice a1 n1 c1) (.slice a2 n2 c2) u) ∧ Below W.heap.size W w') :
    Calls Tryz.prog 45 #[.agg #[.int .i64 6, .int .i64 N, .int .i64 M, .string S, .string T, .slice ka kn kc], .slice sa sn sc] w fun e w' => (∃ l q u, e = .returned (.iface 83 (.agg #[l, q, u, .bool (M == 1)])) ∧ Q l q u) ∧ Below w.heap.size w w' := by
  have HB := hide hB
  clear hB
  go_enter Tryz.func45, Tryz.ntmps45
  go_upto_region 13 with fail
  have HW : Hid (Below w.heap.size w (w.alloc (.cells #[.int .i64 6, .int .i64 N, .int .i64 M, .string S, .string T, .slice ka kn kc] 54))) := bA (Below.refl _ _) _
  refine wp_region_held_drew (S := Std (w.alloc (.cells #[.int .i64 6, .int .i64 N, .int .i64 M, .string S, .string T, .slice ka kn kc] 54))) (by kernel_rfl) (Std.drew (Std.refl _)) (fun hHeld => ?_)
  refine tW 0 45 (.slice sa sn sc) ?_
  simp only [puts]
  refine tW 1 46 (.pointer (some ⟨w.heap.size, 1, none⟩)) ?_
  simp only [puts]
  refine tW 2 47 (.int .i64 N) ?_
  simp only [puts]
  refine tW 4 49 (.pointer (some ⟨w.heap.size, 2, none⟩)) ?_
  simp only [puts]
  refine tW 5 50 (.int .i64 M) ?_
  simp only [puts]
  refine tW 6 51 (.bool (M == 1)) ?_
  simp only [puts]
  refine wpAnyH_ready (rs := [3]) (by kernel_rfl) (by simp) ?_
  refine AllReadyH.cons rfl (fun Kx hK => ?_) AllReadyH.nil
  go_simp
  refine (unhide HB _ (bT (unhide HW) hHeld.2.2)).mono ?_
  rintro e w2 ⟨⟨a1, n1, c1, a2, n2, c2, u, rfl, hu, hQ⟩, hb2⟩
  have HQ := hide hQ
  have HB2 : Hid (Below w.heap.size w w2) := bT (bT (unhide HW) hHeld.2.2) hb2
  clear hQ
  refine hK.out _ _ (Std.call (by assumption) hb2) (fun hHeld2 => ?_)
  clear hK Kx hb2
  rcases hu with rfl | ⟨t, v, rfl⟩
  · skip
    refine tW 7 52 (.agg #[.slice a1 n1 c1, .slice a2 n2 c2, .nilIface, .bool (M == 1)]) ?_
    simp only [puts]
    refine tW 8 53 (.iface 83 (.agg #[.slice a1 n1 c1, .slice a2 n2 c2, .nilIface, .bool (M == 1)])) ?_
    simp only [puts]
    refine tW 9 4 (.iface 83 (.agg #[.slice a1 n1 c1, .slice a2 n2 c2, .nilIface, .bool (M == 1)])) ?_
    simp only [puts]
    refine wpAnyH_done (by kernel_rfl) ?_ _
    clear hHeld hHeld2
    go_wp2
    go_returns
    exact ⟨⟨_, _, _, rfl, unhide HQ⟩, unhide HB2⟩
  · skip
    refine tW 7 52 (.agg #[.slice a1 n1 c1, .slice a2 n2 c2, .iface t v, .bool (M == 1)]) ?_
    simp only [puts]
    refine tW 8 53 (.iface 83 (.agg #[.slice a1 n1 c1, .slice a2 n2 c2, .iface t v, .bool (M == 1)])) ?_
    simp only [puts]
    refine tW 9 4 (.iface 83 (.agg #[.slice a1 n1 c1, .slice a2 n2 c2, .iface t v, .bool (M == 1)])) ?_
    simp only [puts]
    refine wpAnyH_done (by kernel_rfl) ?_ _
    clear hHeld hHeld2
    go_wp2
    go_returns
    exact ⟨⟨_, _, _, rfl, unhide HQ⟩, unhide HB2⟩
end Go.Proofs.YtmcbmmpjhijagaaGreatDoor
