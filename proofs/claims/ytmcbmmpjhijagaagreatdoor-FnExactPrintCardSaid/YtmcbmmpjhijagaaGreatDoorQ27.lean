import Derived.Test.YtmcbmmpjhijagaaGreatDoorQ12
import Derived.Handy
import Derived.Test.YtmcbmmpjhijagaaGreatDoorQ8
import Derived.Test.YtmcbmmpjhijagaaGreatDoorKindFns
namespace Go.Proofs.YtmcbmmpjhijagaaGreatDoor
open Go Go.RowKit
set_option maxRecDepth 100000 in
theorem field0 (k a b : Int) (c d : ByteArray) (w : World) : Sem.run Tryz.prog (Instr.field 54 (.agg #[.int .i64 k, .int .i64 a, .int .i64 b, .string c, .string d, .slice none 0 0]) 0) w = .ok (.int .i64 k) w := by kernel_rfl
set_option maxRecDepth 100000 in
theorem flag_is (b : Bool) (w : World) : Calls Tryz.prog 117 #[.bool b] w fun e w' => e = .returned (.int .i64 (if b then 1 else 0)) ∧ w' = w := by
  cases b
  · go_enter Tryz.func117, Tryz.ntmps117
    go_wp2
    go_returns
    exact ⟨rfl, rfl⟩
  · go_enter Tryz.func117, Tryz.ntmps117
    go_wp2
    go_returns
    exact ⟨rfl, rfl⟩
set_option maxRecDepth 100000 in
set_option maxHeartbeats 4000000 in
theorem node_5 {s t : ByteArray} (w : World) : Calls Tryz.prog 115 #[.agg #[.string s, .string t]] w fun e w' => (∃ (a b : Int) (c d : ByteArray), e = .returned (.agg #[.int .i64 5, .int .i64 a, .int .i64 b, .string c, .string d, .slice none 0 0])) ∧ Below w.heap.size w w' := by
  go_enter Tryz.func115, Tryz.ntmps115
  go_wp2
  go_returns
  exact ⟨⟨_, _, _, _, rfl⟩, by first | exact bA (Below.refl _ _) _ | exact Below.refl _ _ | exact below_drewN _ _ | exact bA (bA (Below.refl _ _) _) _⟩
set_option maxRecDepth 100000 in
set_option maxHeartbeats 4000000 in
theorem node_8 {m : Int} {t0 t1 : Nat} {v0 v1 : Value} (w : World) : Calls Tryz.prog 121 #[.agg #[.int .i64 m, .iface t0 v0, .iface t1 v1]] w fun e w' => (∃ (a b : Int) (c d : ByteArray), e = .returned (.agg #[.int .i64 8, .int .i64 a, .int .i64 b, .string c, .string d, .slice none 0 0])) ∧ Below w.heap.size w w' := by
  go_enter Tryz.func121, Tryz.ntmps121
  go_wp2
  go_returns
  exact ⟨⟨_, _, _, _, rfl⟩, by first | exact bA (Below.refl _ _) _ | exact Below.refl _ _ | exact below_drewN _ _ | exact bA (bA (Below.refl _ _) _) _⟩
set_option maxRecDepth 100000 in
set_option maxHeartbeats 4000000 in
theorem node_9 {b : Bool} {t0 : Nat} {v0 : Value} (w : World) : Calls Tryz.prog 123 #[.agg #[.bool b, .iface t0 v0]] w fun e w' => (∃ (a b : Int) (c d : ByteArray), e = .returned (.agg #[.int .i64 9, .int .i64 a, .int .i64 b, .string c, .string d, .slice none 0 0])) ∧ Below w.heap.size w w' := by
  go_enter Tryz.func123, Tryz.ntmps123
  go_wp2_with fail
  refine (flag_is b _).mono ?_
  rintro e w1 ⟨rfl, rfl⟩
  generalize (if b then (1 : Int) else 0) = fl
  go_wp2
  go_returns
  exact ⟨⟨_, _, _, _, rfl⟩, by first | exact bA (Below.refl _ _) _ | exact Below.refl _ _ | exact below_drewN _ _ | exact bA (bA (Below.refl _ _) _) _⟩
set_option maxRecDepth 100000 in
set_option maxHeartbeats 4000000 in
theorem node_10 {t0 : Nat} {v0 : Value} (w : World) : Calls Tryz.prog 125 #[.agg #[.iface t0 v0]] w fun e w' => (∃ (a b : Int) (c d : ByteArray), e = .returned (.agg #[.int .i64 10, .int .i64 a, .int .i64 b, .string c, .string d, .slice none 0 0])) ∧ Below w.heap.size w w' := by
  go_enter Tryz.func125, Tryz.ntmps125
  go_wp2
  go_returns
  exact ⟨⟨_, _, _, _, rfl⟩, by first | exact bA (Below.refl _ _) _ | exact Below.refl _ _ | exact below_drewN _ _ | exact bA (bA (Below.refl _ _) _) _⟩
set_option maxRecDepth 100000 in
set_option maxHeartbeats 4000000 in
theorem node_11 {b : Bool} {t0 t1 : Nat} {v0 v1 : Value} (w : World) : Calls Tryz.prog 127 #[.agg #[.bool b, .iface t0 v0, .iface t1 v1]] w fun e w' => (∃ (a b : Int) (c d : ByteArray), e = .returned (.agg #[.int .i64 11, .int .i64 a, .int .i64 b, .string c, .string d, .slice none 0 0])) ∧ Below w.heap.size w w' := by
  go_enter Tryz.func127, Tryz.ntmps127
  go_wp2_with fail
  refine (flag_is b _).mono ?_
  rintro e w1 ⟨rfl, rfl⟩
  generalize (if b then (1 : Int) else 0) = fl
  go_wp2
  go_returns
  exact ⟨⟨_, _, _, _, rfl⟩, by first | exact bA (Below.refl _ _) _ | exact Below.refl _ _ | exact below_drewN _ _ | exact bA (bA (Below.refl _ _) _) _⟩
set_option maxRecDepth 100000 in
set_option maxHeartbeats 4000000 in
theorem node_12 {m n : Int} {t0 t1 : Nat} {v0 v1 : Value} (w : World) : Calls Tryz.prog 129 #[.agg #[.int .i64 m, .int .i64 n, .iface t0 v0, .iface t1 v1]] w fun e w' => (∃ (a b : Int) (c d : ByteArray), e = .returned (.agg #[.int .i64 12, .int .i64 a, .int .i64 b, .string c, .string d, .slice none 0 0])) ∧ Below w.heap.size w w' := by
  go_enter Tryz.func129, Tryz.ntmps129
  go_wp2
  go_returns
  exact ⟨⟨_, _, _, _, rfl⟩, by first | exact bA (Below.refl _ _) _ | exact Below.refl _ _ | exact below_drewN _ _ | exact bA (bA (Below.refl _ _) _) _⟩
set_option maxRecDepth 100000 in
set_option maxHeartbeats 4000000 in
theorem node_13 {t0 : Nat} {v0 : Value} (w : World) : Calls Tryz.prog 131 #[.agg #[.iface t0 v0]] w fun e w' => (∃ (a b : Int) (c d : ByteArray), e = .returned (.agg #[.int .i64 13, .int .i64 a, .int .i64 b, .string c, .string d, .slice none 0 0])) ∧ Below w.heap.size w w' := by
  go_enter Tryz.func131, Tryz.ntmps131
  go_wp2
  go_returns
  exact ⟨⟨_, _, _, _, rfl⟩, by first | exact bA (Below.refl _ _) _ | exact Below.refl _ _ | exact below_drewN _ _ | exact bA (bA (Below.refl _ _) _) _⟩
set_option maxRecDepth 100000 in
set_option maxHeartbeats 4000000 in
theorem node_14 {a : Option Addr} {n c : Nat} (w : World) : Calls Tryz.prog 133 #[.agg #[.slice a n c]] w fun e w' => (∃ (a b : Int) (c d : ByteArray), e = .returned (.agg #[.int .i64 14, .int .i64 a, .int .i64 b, .string c, .string d, .slice none 0 0])) ∧ Below w.heap.size w w' := by
  go_enter Tryz.func133, Tryz.ntmps133
  go_wp2
  go_returns
  exact ⟨⟨_, _, _, _, rfl⟩, by first | exact bA (Below.refl _ _) _ | exact Below.refl _ _ | exact below_drewN _ _ | exact bA (bA (Below.refl _ _) _) _⟩
set_option maxRecDepth 100000 in
set_option maxHeartbeats 4000000 in
theorem node_15 {a : Option Addr} {n c : Nat} (w : World) : Calls Tryz.prog 135 #[.agg #[.slice a n c]] w fun e w' => (∃ (a b : Int) (c d : ByteArray), e = .returned (.agg #[.int .i64 15, .int .i64 a, .int .i64 b, .string c, .string d, .slice none 0 0])) ∧ Below w.heap.size w w' := by
  go_enter Tryz.func135, Tryz.ntmps135
  go_wp2
  go_returns
  exact ⟨⟨_, _, _, _, rfl⟩, by first | exact bA (Below.refl _ _) _ | exact Below.refl _ _ | exact below_drewN _ _ | exact bA (bA (Below.refl _ _) _) _⟩
end Go.Proofs.YtmcbmmpjhijagaaGreatDoor
namespace Go.Proofs.YtmcbmmpjhijagaaGreatDoor
open Go Go.RowKit
set_option maxRecDepth 100000 in
set_option maxHeartbeats 4000000 in
theorem block_5 {kg m N : Nat} {w : World} {s t : ByteArray} (hN : N < m) (hm : m ≤ 1000000) (hk : kg < w.heap.size) (hc : w.cell? ⟨kg, m - 1, none⟩ = some (.iface 80 (.agg #[.string s, .string t]))) :
    Calls Tryz.prog 65 #[.slice (some ⟨kg, 0, none⟩) m m, .int .i64 (N : Int)] w fun e w' => e = .returned (.agg #[.slice (some ⟨kg, 0, none⟩) N m, .slice (some ⟨kg, N, none⟩) (m - N) (m - N), .nilIface]) ∧ Below w.heap.size w w' := by
  have hN0 : (N : Int) ≤ (m : Int) := by omega
  have hN1 : (N : Int) < (m : Int) := by omega
  have hmN : ¬ m = N := by omega
  have hc1 := hc
  rw [show m - 1 = N + (m - N - 1) by omega] at hc1
  go_enter Tryz.func65, Tryz.ntmps65
  go_upto_region 1 with fail
  have HW := hide (bA (Below.refl w.heap.size w) (.cells #[.slice none 0 0, .slice none 0 0, .nilIface] 75))
  refine wp_region_held_drew (S := fun _ => True ∧ True) (by kernel_rfl) ⟨trivial, trivial⟩ (fun hHeld => ?_)
  refine tW 0 7 (.slice (some ⟨kg, 0, none⟩) m m) ?_
  simp only [puts]
  refine tW 1 8 (.int .i64 (N : Int)) ?_
  simp only [puts]
  refine tW 2 9 (.slice (some ⟨kg, 0, none⟩) N m) ?_
  simp only [puts]
  refine tW 3 10 (.slice (some ⟨kg, 0, none⟩) m m) ?_
  simp only [puts]
  refine tW 4 11 (.int .i64 (N : Int)) ?_
  simp only [puts]
  refine tW 5 12 (.slice (some ⟨kg, N, none⟩) (m - N) (m - N)) ?_
  simp only [puts]
  refine tW 6 13 (.agg #[.slice (some ⟨kg, 0, none⟩) N m, .slice (some ⟨kg, N, none⟩) (m - N) (m - N), .nilIface]) ?_
  simp only [puts]
  refine wpAnyH_ready (rs := [7]) (by kernel_rfl) (by simp) ?_
  refine AllReadyH.cons rfl (fun Kx hK => ?_) AllReadyH.nil
  go_simp
  refine hK.out _ _ ⟨trivial, trivial⟩ (fun hHeld2 => ?_)
  clear hK Kx
  refine wpAnyH_ready (rs := [8]) (by kernel_rfl) (by simp) ?_
  refine AllReadyH.cons rfl (fun Kx hK => ?_) AllReadyH.nil
  go_simp
  refine hK.out _ _ ⟨trivial, trivial⟩ (fun hHeld3 => ?_)
  clear hK Kx hHeld hHeld2 hHeld3
  refine wpAnyH_done (by kernel_rfl) ?_ _
  have hl1 : (0 : Int) ≤ ((m - N : Nat) : Int) - 1 := by omega
  have hl2 : ((m - N : Nat) : Int) - 1 < ((m - N : Nat) : Int) := by omega
  go_wp2_with fail
  refine (node_5 _).mono ?_
  rintro e w1 ⟨⟨a', b', c', d', rfl⟩, hb⟩
  have HB : Hid (Below w.heap.size w w1) := bT (Below.drew (bA (bA (Below.refl w.heap.size w) _) _)) hb
  have hs : w.heap.size + 1 < w1.heap.size := by have := hb.size; simp at this; omega
  have hs0 : w.heap.size < w1.heap.size := by omega
  have hks : kg < w1.heap.size := by omega
  have p0 : w1.cell? ⟨w.heap.size, 0, none⟩ = some (.slice none 0 0) := ((bcell hb).1 (w.heap.size) 0 (by simp; omega)).trans (by simp [go_sem])
  have pf0 : w1.frozen? ⟨w.heap.size, 0, none⟩ = false := ((bcell hb).2 (w.heap.size) 0 (by simp; omega)).trans (by simp [go_sem])
  have p1 : w1.cell? ⟨w.heap.size, 1, none⟩ = some (.slice none 0 0) := ((bcell hb).1 (w.heap.size) 1 (by simp; omega)).trans (by simp [go_sem])
  have pf1 : w1.frozen? ⟨w.heap.size, 1, none⟩ = false := ((bcell hb).2 (w.heap.size) 1 (by simp; omega)).trans (by simp [go_sem])
  have p2 : w1.cell? ⟨w.heap.size, 2, none⟩ = some (.nilIface) := ((bcell hb).1 (w.heap.size) 2 (by simp; omega)).trans (by simp [go_sem])
  have pf2 : w1.frozen? ⟨w.heap.size, 2, none⟩ = false := ((bcell hb).2 (w.heap.size) 2 (by simp; omega)).trans (by simp [go_sem])
  have q0 : w1.cell? ⟨w.heap.size + 1, 0, none⟩ = some (.slice (some ⟨kg, 0, none⟩) N m) := ((bcell hb).1 (w.heap.size + 1) 0 (by simp)).trans (by simp [go_sem])
  have qf0 : w1.frozen? ⟨w.heap.size + 1, 0, none⟩ = false := ((bcell hb).2 (w.heap.size + 1) 0 (by simp)).trans (by simp [go_sem])
  have q1 : w1.cell? ⟨w.heap.size + 1, 1, none⟩ = some (.slice (some ⟨kg, N, none⟩) (m - N) (m - N)) := ((bcell hb).1 (w.heap.size + 1) 1 (by simp)).trans (by simp [go_sem])
  have qf1 : w1.frozen? ⟨w.heap.size + 1, 1, none⟩ = false := ((bcell hb).2 (w.heap.size + 1) 1 (by simp)).trans (by simp [go_sem])
  have q2 : w1.cell? ⟨w.heap.size + 1, 2, none⟩ = some (.nilIface) := ((bcell hb).1 (w.heap.size + 1) 2 (by simp)).trans (by simp [go_sem])
  have qf2 : w1.frozen? ⟨w.heap.size + 1, 2, none⟩ = false := ((bcell hb).2 (w.heap.size + 1) 2 (by simp)).trans (by simp [go_sem])
  have hcw : w1.cell? ⟨kg, N + (m - N - 1), none⟩ = some (.iface 80 (.agg #[.string s, .string t])) := ((bcell hb).1 kg _ (by simp; omega)).trans (by simp [go_sem, hc1, hk])
  have hcd : cdB 5 = false := by decide
  clear hb
  have hfl := field0 5 a' b' c' d' w1
  go_wp2_with fail
  refine (isCond_calls 5 _).mono ?_
  rintro e w2 ⟨rfl, rfl⟩
  rw [hcd]
  clear hcd
  go_wp2
  refine bodyPost_ret (by simp [results, Tryz.results65, go_sem, p0, p1, p2, World.cell?_setCell_other]; try rfl) rfl ?_
  exact ⟨rfl, ((((unhide HB).setCell (Nat.le_refl _) _).setCell (Nat.le_refl _) _).setCell (Nat.le_refl _) _)⟩
end Go.Proofs.YtmcbmmpjhijagaaGreatDoor
