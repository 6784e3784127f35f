import Derived.Test.YtmcbmmpjhijagaaGreatDoorQ13
namespace Go.Proofs.YtmcbmmpjhijagaaGreatDoor
open Go Go.RowKit
set_option maxRecDepth 100000 in
set_option maxHeartbeats 4000000 in
theorem agg_n0 {p B : Nat} {w : World} (M : Int) (h1 : 2 ≤ M) (h2 : M ≤ 4) (hp : 8 ≤ p) (hpB : p < B) (hT : TP w) {a1 a2 : Option Addr} {n1 c1 n2 c2 : Nat} {xss : List (List (List UInt8))} (k0 : LW p B 14 (.slice a1 n1 c1) xss w) (hx1 : xss.length ≤ 1) {x : List (List UInt8)} (k1 : Wrs p B 64 (.agg #[.slice a1 n1 c1, .slice a2 n2 c2, .nilIface]) x w) : Wrs p B 36 (.agg #[.slice a1 n1 c1, .slice a2 n2 c2, .nilIface, .int .i64 M]) ([kOpen, kSELECT, aggw M, kOpen] ++ iL [] xss ++ [kShut] ++ x ++ [kShut]) w := by
  intro W G ws hK hP hl
  simp at hl
  have HP := hide hP
  have HK := hide hK
  have Hk0 := hide (k0)
  have Hk1 := hide (k1)
  have HhT := hide (hT)
  have hcm : W.cell? ⟨2, M.toNat, none⟩ = some (.string (mkS (aggw M))) := agg_look (M := M) (hT.kp hK hp hpB) (by omega) (by omega)
  have hgl : 2 < W.heap.size := by have := hP.sz; omega
  clear hP hK k0 k1 hT
  go_enter Tryz.func36, Tryz.ntmps36
  have HN0 : Hid (PN p B W (W.alloc (.cells #[.slice a1 n1 c1, .slice a2 n2 c2, .nilIface, .int .i64 M] 77)) G G ws) := (PN.refl (unhide HP)).below (bA (Below.refl _ _) _)
  have HB0 : Hid (Bx (W.alloc (.cells #[.slice a1 n1 c1, .slice a2 n2 c2, .nilIface, .int .i64 M] 77)) p W.heap.size G) := Bx.made (unhide HP) _ (Nat.le_refl _) (by simp)
  have hM1 : ¬ M = 1 := by omega
  go_wp2_with fail
  refine Calls.mono (say_new (unhide HN0).pb [kOpen, kSELECT, aggw M, kOpen] _ _ _ _ _ (by simp) rfl rfl (by simp) (by first | omega | (simp; omega))) ?_
  rintro e w1 ⟨rfl, G1, hn⟩
  have HN1 := hide ((unhide HN0).trans hn)
  have HB1 := hide ((unhide HB0).step hn)
  have c0 : w1.cell? ⟨W.heap.size, 0, none⟩ = some (.slice a1 n1 c1) := ((unhide HB0).cell hn 0).trans (by simp [go_sem])
  have c1 : w1.cell? ⟨W.heap.size, 1, none⟩ = some (.slice a2 n2 c2) := ((unhide HB0).cell hn 1).trans (by simp [go_sem])
  have c2 : w1.cell? ⟨W.heap.size, 2, none⟩ = some (.nilIface) := ((unhide HB0).cell hn 2).trans (by simp [go_sem])
  have c3 : w1.cell? ⟨W.heap.size, 3, none⟩ = some (.int .i64 M) := ((unhide HB0).cell hn 3).trans (by simp [go_sem])
  clear hn
  go_wp2_with fail
  refine Calls.mono (one_write (unhide Hk0) ((unhide HK).step (unhide HP) (unhide HN1)) (unhide HN1).pb hx1 _ (by first | omega | (simp; omega))) ?_
  rintro e w2 ⟨rfl, G2, hn⟩
  have HN2 := hide ((unhide HN1).trans hn)
  have HB2 := hide ((unhide HB1).step hn)
  replace c0 := ((unhide HB1).cell hn 0).trans c0
  replace c1 := ((unhide HB1).cell hn 1).trans c1
  replace c2 := ((unhide HB1).cell hn 2).trans c2
  replace c3 := ((unhide HB1).cell hn 3).trans c3
  clear hn
  go_wp2_with fail
  refine Calls.mono (say_new (unhide HN2).pb [kShut] _ _ _ _ _ (by simp) rfl rfl (by simp) (by first | omega | (simp; omega))) ?_
  rintro e w3 ⟨rfl, G3, hn⟩
  have HN3 := hide ((unhide HN2).trans hn)
  have HB3 := hide ((unhide HB2).step hn)
  replace c0 := ((unhide HB2).cell hn 0).trans c0
  replace c1 := ((unhide HB2).cell hn 1).trans c1
  replace c2 := ((unhide HB2).cell hn 2).trans c2
  replace c3 := ((unhide HB2).cell hn 3).trans c3
  clear hn
  go_wp2_with fail
  refine (unhide Hk1 _ G3 _ ((unhide HK).step (unhide HP) (unhide HN3)) (unhide HN3).pb (by first | omega | (simp; omega))).mono ?_
  rintro e w4 ⟨rfl, G4, hn⟩
  have HN4 := hide ((unhide HN3).trans hn)
  have HB4 := hide ((unhide HB3).step hn)
  replace c0 := ((unhide HB3).cell hn 0).trans c0
  replace c1 := ((unhide HB3).cell hn 1).trans c1
  replace c2 := ((unhide HB3).cell hn 2).trans c2
  replace c3 := ((unhide HB3).cell hn 3).trans c3
  clear hn
  go_wp2_with fail
  refine Calls.mono (say_new (unhide HN4).pb [kShut] _ _ _ _ _ (by simp) rfl rfl (by simp) (by first | omega | (simp; omega))) ?_
  rintro e w5 ⟨rfl, G5, hn⟩
  have HN5 := hide ((unhide HN4).trans hn)
  clear hn
  go_wp2
  go_end0
  have hz := unhide HN5
  exact ⟨rfl, _, by simpa only [List.append_assoc, List.nil_append, List.cons_append] using hz⟩
set_option maxRecDepth 100000 in
set_option maxHeartbeats 4000000 in
theorem agg_n1 {p B : Nat} {w : World} (hp : 8 ≤ p) (hpB : p < B) (hT : TP w) {a1 a2 : Option Addr} {n1 c1 n2 c2 : Nat} {xss : List (List (List UInt8))} (k0 : LW p B 14 (.slice a1 n1 c1) xss w) (hx1 : xss.length ≤ 1) {x : List (List UInt8)} (k1 : Wrs p B 64 (.agg #[.slice a1 n1 c1, .slice a2 n2 c2, .nilIface]) x w) : Wrs p B 36 (.agg #[.slice a1 n1 c1, .slice a2 n2 c2, .nilIface, .int .i64 1]) ([kOpen, kSELECT, aggw 1, kOpen] ++ [kStar] ++ iL [] xss ++ [kShut] ++ x ++ [kShut]) w := by
  intro W G ws hK hP hl
  simp at hl
  have HP := hide hP
  have HK := hide hK
  have Hk0 := hide (k0)
  have Hk1 := hide (k1)
  have HhT := hide (hT)
  have hcm : W.cell? ⟨2, 1, none⟩ = some (.string (mkS (aggw 1))) := agg_look (M := 1) (hT.kp hK hp hpB) (by omega) (by omega)
  have hgl : 2 < W.heap.size := by have := hP.sz; omega
  clear hP hK k0 k1 hT
  go_enter Tryz.func36, Tryz.ntmps36
  have HN0 : Hid (PN p B W (W.alloc (.cells #[.slice a1 n1 c1, .slice a2 n2 c2, .nilIface, .int .i64 1] 77)) G G ws) := (PN.refl (unhide HP)).below (bA (Below.refl _ _) _)
  have HB0 : Hid (Bx (W.alloc (.cells #[.slice a1 n1 c1, .slice a2 n2 c2, .nilIface, .int .i64 1] 77)) p W.heap.size G) := Bx.made (unhide HP) _ (Nat.le_refl _) (by simp)
  go_wp2_with fail
  refine Calls.mono (say_new (unhide HN0).pb [kOpen, kSELECT, aggw 1, kOpen] _ _ _ _ _ (by simp) rfl rfl (by simp) (by first | omega | (simp; omega))) ?_
  rintro e w1 ⟨rfl, G1, hn⟩
  have HN1 := hide ((unhide HN0).trans hn)
  have HB1 := hide ((unhide HB0).step hn)
  have c0 : w1.cell? ⟨W.heap.size, 0, none⟩ = some (.slice a1 n1 c1) := ((unhide HB0).cell hn 0).trans (by simp [go_sem])
  have c1 : w1.cell? ⟨W.heap.size, 1, none⟩ = some (.slice a2 n2 c2) := ((unhide HB0).cell hn 1).trans (by simp [go_sem])
  have c2 : w1.cell? ⟨W.heap.size, 2, none⟩ = some (.nilIface) := ((unhide HB0).cell hn 2).trans (by simp [go_sem])
  have c3 : w1.cell? ⟨W.heap.size, 3, none⟩ = some (.int .i64 1) := ((unhide HB0).cell hn 3).trans (by simp [go_sem])
  clear hn
  go_wp2_with fail
  refine Calls.mono (say_new (unhide HN1).pb [kStar] _ _ _ _ _ (by simp) rfl rfl (by simp) (by first | omega | (simp; omega))) ?_
  rintro e w2 ⟨rfl, G2, hn⟩
  have HN2 := hide ((unhide HN1).trans hn)
  have HB2 := hide ((unhide HB1).step hn)
  replace c0 := ((unhide HB1).cell hn 0).trans c0
  replace c1 := ((unhide HB1).cell hn 1).trans c1
  replace c2 := ((unhide HB1).cell hn 2).trans c2
  replace c3 := ((unhide HB1).cell hn 3).trans c3
  clear hn
  go_wp2_with fail
  refine Calls.mono (one_write (unhide Hk0) ((unhide HK).step (unhide HP) (unhide HN2)) (unhide HN2).pb hx1 _ (by first | omega | (simp; omega))) ?_
  rintro e w3 ⟨rfl, G3, hn⟩
  have HN3 := hide ((unhide HN2).trans hn)
  have HB3 := hide ((unhide HB2).step hn)
  replace c0 := ((unhide HB2).cell hn 0).trans c0
  replace c1 := ((unhide HB2).cell hn 1).trans c1
  replace c2 := ((unhide HB2).cell hn 2).trans c2
  replace c3 := ((unhide HB2).cell hn 3).trans c3
  clear hn
  go_wp2_with fail
  refine Calls.mono (say_new (unhide HN3).pb [kShut] _ _ _ _ _ (by simp) rfl rfl (by simp) (by first | omega | (simp; omega))) ?_
  rintro e w4 ⟨rfl, G4, hn⟩
  have HN4 := hide ((unhide HN3).trans hn)
  have HB4 := hide ((unhide HB3).step hn)
  replace c0 := ((unhide HB3).cell hn 0).trans c0
  replace c1 := ((unhide HB3).cell hn 1).trans c1
  replace c2 := ((unhide HB3).cell hn 2).trans c2
  replace c3 := ((unhide HB3).cell hn 3).trans c3
  clear hn
  go_wp2_with fail
  refine (unhide Hk1 _ G4 _ ((unhide HK).step (unhide HP) (unhide HN4)) (unhide HN4).pb (by first | omega | (simp; omega))).mono ?_
  rintro e w5 ⟨rfl, G5, hn⟩
  have HN5 := hide ((unhide HN4).trans hn)
  have HB5 := hide ((unhide HB4).step hn)
  replace c0 := ((unhide HB4).cell hn 0).trans c0
  replace c1 := ((unhide HB4).cell hn 1).trans c1
  replace c2 := ((unhide HB4).cell hn 2).trans c2
  replace c3 := ((unhide HB4).cell hn 3).trans c3
  clear hn
  go_wp2_with fail
  refine Calls.mono (say_new (unhide HN5).pb [kShut] _ _ _ _ _ (by simp) rfl rfl (by simp) (by first | omega | (simp; omega))) ?_
  rintro e w6 ⟨rfl, G6, hn⟩
  have HN6 := hide ((unhide HN5).trans hn)
  clear hn
  go_wp2
  go_end0
  have hz := unhide HN6
  exact ⟨rfl, _, by simpa only [List.append_assoc, List.nil_append, List.cons_append] using hz⟩
set_option maxRecDepth 100000 in
set_option maxHeartbeats 4000000 in
theorem agg_i0 {p B : Nat} {w : World} (M : Int) (h1 : 2 ≤ M) (h2 : M ≤ 4) (hp : 8 ≤ p) (hpB : p < B) (hT : TP w) {a1 a2 : Option Addr} {n1 c1 n2 c2 : Nat} {xss : List (List (List UInt8))} (k0 : LW p B 14 (.slice a1 n1 c1) xss w) (hx1 : xss.length ≤ 1) {t : Nat} {v : Value} {x : List (List UInt8)} (k1 : Wrs p B 64 (.agg #[.slice a1 n1 c1, .slice a2 n2 c2, .iface t v]) x w) : Wrs p B 36 (.agg #[.slice a1 n1 c1, .slice a2 n2 c2, .iface t v, .int .i64 M]) ([kOpen, kSELECT, aggw M, kOpen] ++ iL [] xss ++ [kShut] ++ x ++ [kShut]) w := by
  intro W G ws hK hP hl
  simp at hl
  have HP := hide hP
  have HK := hide hK
  have Hk0 := hide (k0)
  have Hk1 := hide (k1)
  have HhT := hide (hT)
  have hcm : W.cell? ⟨2, M.toNat, none⟩ = some (.string (mkS (aggw M))) := agg_look (M := M) (hT.kp hK hp hpB) (by omega) (by omega)
  have hgl : 2 < W.heap.size := by have := hP.sz; omega
  clear hP hK k0 k1 hT
  go_enter Tryz.func36, Tryz.ntmps36
  have HN0 : Hid (PN p B W (W.alloc (.cells #[.slice a1 n1 c1, .slice a2 n2 c2, .iface t v, .int .i64 M] 77)) G G ws) := (PN.refl (unhide HP)).below (bA (Below.refl _ _) _)
  have HB0 : Hid (Bx (W.alloc (.cells #[.slice a1 n1 c1, .slice a2 n2 c2, .iface t v, .int .i64 M] 77)) p W.heap.size G) := Bx.made (unhide HP) _ (Nat.le_refl _) (by simp)
  have hM1 : ¬ M = 1 := by omega
  go_wp2_with fail
  refine Calls.mono (say_new (unhide HN0).pb [kOpen, kSELECT, aggw M, kOpen] _ _ _ _ _ (by simp) rfl rfl (by simp) (by first | omega | (simp; omega))) ?_
  rintro e w1 ⟨rfl, G1, hn⟩
  have HN1 := hide ((unhide HN0).trans hn)
  have HB1 := hide ((unhide HB0).step hn)
  have c0 : w1.cell? ⟨W.heap.size, 0, none⟩ = some (.slice a1 n1 c1) := ((unhide HB0).cell hn 0).trans (by simp [go_sem])
  have c1 : w1.cell? ⟨W.heap.size, 1, none⟩ = some (.slice a2 n2 c2) := ((unhide HB0).cell hn 1).trans (by simp [go_sem])
  have c2 : w1.cell? ⟨W.heap.size, 2, none⟩ = some (.iface t v) := ((unhide HB0).cell hn 2).trans (by simp [go_sem])
  have c3 : w1.cell? ⟨W.heap.size, 3, none⟩ = some (.int .i64 M) := ((unhide HB0).cell hn 3).trans (by simp [go_sem])
  clear hn
  go_wp2_with fail
  refine Calls.mono (one_write (unhide Hk0) ((unhide HK).step (unhide HP) (unhide HN1)) (unhide HN1).pb hx1 _ (by first | omega | (simp; omega))) ?_
  rintro e w2 ⟨rfl, G2, hn⟩
  have HN2 := hide ((unhide HN1).trans hn)
  have HB2 := hide ((unhide HB1).step hn)
  replace c0 := ((unhide HB1).cell hn 0).trans c0
  replace c1 := ((unhide HB1).cell hn 1).trans c1
  replace c2 := ((unhide HB1).cell hn 2).trans c2
  replace c3 := ((unhide HB1).cell hn 3).trans c3
  clear hn
  go_wp2_with fail
  refine Calls.mono (say_new (unhide HN2).pb [kShut] _ _ _ _ _ (by simp) rfl rfl (by simp) (by first | omega | (simp; omega))) ?_
  rintro e w3 ⟨rfl, G3, hn⟩
  have HN3 := hide ((unhide HN2).trans hn)
  have HB3 := hide ((unhide HB2).step hn)
  replace c0 := ((unhide HB2).cell hn 0).trans c0
  replace c1 := ((unhide HB2).cell hn 1).trans c1
  replace c2 := ((unhide HB2).cell hn 2).trans c2
  replace c3 := ((unhide HB2).cell hn 3).trans c3
  clear hn
  go_wp2_with fail
  refine (unhide Hk1 _ G3 _ ((unhide HK).step (unhide HP) (unhide HN3)) (unhide HN3).pb (by first | omega | (simp; omega))).mono ?_
  rintro e w4 ⟨rfl, G4, hn⟩
  have HN4 := hide ((unhide HN3).trans hn)
  have HB4 := hide ((unhide HB3).step hn)
  replace c0 := ((unhide HB3).cell hn 0).trans c0
  replace c1 := ((unhide HB3).cell hn 1).trans c1
  replace c2 := ((unhide HB3).cell hn 2).trans c2
  replace c3 := ((unhide HB3).cell hn 3).trans c3
  clear hn
  go_wp2_with fail
  refine Calls.mono (say_new (unhide HN4).pb [kShut] _ _ _ _ _ (by simp) rfl rfl (by simp) (by first | omega | (simp; omega))) ?_
  rintro e w5 ⟨rfl, G5, hn⟩
  have HN5 := hide ((unhide HN4).trans hn)
  clear hn
  go_wp2
  go_end0
  have hz := unhide HN5
  exact ⟨rfl, _, by simpa only [List.append_assoc, List.nil_append, List.cons_append] using hz⟩
set_option maxRecDepth 100000 in
set_option maxHeartbeats 4000000 in
theorem agg_i1 {p B : Nat} {w : World} (hp : 8 ≤ p) (hpB : p < B) (hT : TP w) {a1 a2 : Option Addr} {n1 c1 n2 c2 : Nat} {xss : List (List (List UInt8))} (k0 : LW p B 14 (.slice a1 n1 c1) xss w) (hx1 : xss.length ≤ 1) {t : Nat} {v : Value} {x : List (List UInt8)} (k1 : Wrs p B 64 (.agg #[.slice a1 n1 c1, .slice a2 n2 c2, .iface t v]) x w) : Wrs p B 36 (.agg #[.slice a1 n1 c1, .slice a2 n2 c2, .iface t v, .int .i64 1]) ([kOpen, kSELECT, aggw 1, kOpen] ++ [kStar] ++ iL [] xss ++ [kShut] ++ x ++ [kShut]) w := by
  intro W G ws hK hP hl
  simp at hl
  have HP := hide hP
  have HK := hide hK
  have Hk0 := hide (k0)
  have Hk1 := hide (k1)
  have HhT := hide (hT)
  have hcm : W.cell? ⟨2, 1, none⟩ = some (.string (mkS (aggw 1))) := agg_look (M := 1) (hT.kp hK hp hpB) (by omega) (by omega)
  have hgl : 2 < W.heap.size := by have := hP.sz; omega
  clear hP hK k0 k1 hT
  go_enter Tryz.func36, Tryz.ntmps36
  have HN0 : Hid (PN p B W (W.alloc (.cells #[.slice a1 n1 c1, .slice a2 n2 c2, .iface t v, .int .i64 1] 77)) G G ws) := (PN.refl (unhide HP)).below (bA (Below.refl _ _) _)
  have HB0 : Hid (Bx (W.alloc (.cells #[.slice a1 n1 c1, .slice a2 n2 c2, .iface t v, .int .i64 1] 77)) p W.heap.size G) := Bx.made (unhide HP) _ (Nat.le_refl _) (by simp)
  go_wp2_with fail
  refine Calls.mono (say_new (unhide HN0).pb [kOpen, kSELECT, aggw 1, kOpen] _ _ _ _ _ (by simp) rfl rfl (by simp) (by first | omega | (simp; omega))) ?_
  rintro e w1 ⟨rfl, G1, hn⟩
  have HN1 := hide ((unhide HN0).trans hn)
  have HB1 := hide ((unhide HB0).step hn)
  have c0 : w1.cell? ⟨W.heap.size, 0, none⟩ = some (.slice a1 n1 c1) := ((unhide HB0).cell hn 0).trans (by simp [go_sem])
  have c1 : w1.cell? ⟨W.heap.size, 1, none⟩ = some (.slice a2 n2 c2) := ((unhide HB0).cell hn 1).trans (by simp [go_sem])
  have c2 : w1.cell? ⟨W.heap.size, 2, none⟩ = some (.iface t v) := ((unhide HB0).cell hn 2).trans (by simp [go_sem])
  have c3 : w1.cell? ⟨W.heap.size, 3, none⟩ = some (.int .i64 1) := ((unhide HB0).cell hn 3).trans (by simp [go_sem])
  clear hn
  go_wp2_with fail
  refine Calls.mono (say_new (unhide HN1).pb [kStar] _ _ _ _ _ (by simp) rfl rfl (by simp) (by first | omega | (simp; omega))) ?_
  rintro e w2 ⟨rfl, G2, hn⟩
  have HN2 := hide ((unhide HN1).trans hn)
  have HB2 := hide ((unhide HB1).step hn)
  replace c0 := ((unhide HB1).cell hn 0).trans c0
  replace c1 := ((unhide HB1).cell hn 1).trans c1
  replace c2 := ((unhide HB1).cell hn 2).trans c2
  replace c3 := ((unhide HB1).cell hn 3).trans c3
  clear hn
  go_wp2_with fail
  refine Calls.mono (one_write (unhide Hk0) ((unhide HK).step (unhide HP) (unhide HN2)) (unhide HN2).pb hx1 _ (by first | omega | (simp; omega))) ?_
  rintro e w3 ⟨rfl, G3, hn⟩
  have HN3 := hide ((unhide HN2).trans hn)
  have HB3 := hide ((unhide HB2).step hn)
  replace c0 := ((unhide HB2).cell hn 0).trans c0
  replace c1 := ((unhide HB2).cell hn 1).trans c1
  replace c2 := ((unhide HB2).cell hn 2).trans c2
  replace c3 := ((unhide HB2).cell hn 3).trans c3
  clear hn
  go_wp2_with fail
  refine Calls.mono (say_new (unhide HN3).pb [kShut] _ _ _ _ _ (by simp) rfl rfl (by simp) (by first | omega | (simp; omega))) ?_
  rintro e w4 ⟨rfl, G4, hn⟩
  have HN4 := hide ((unhide HN3).trans hn)
  have HB4 := hide ((unhide HB3).step hn)
  replace c0 := ((unhide HB3).cell hn 0).trans c0
  replace c1 := ((unhide HB3).cell hn 1).trans c1
  replace c2 := ((unhide HB3).cell hn 2).trans c2
  replace c3 := ((unhide HB3).cell hn 3).trans c3
  clear hn
  go_wp2_with fail
  refine (unhide Hk1 _ G4 _ ((unhide HK).step (unhide HP) (unhide HN4)) (unhide HN4).pb (by first | omega | (simp; omega))).mono ?_
  rintro e w5 ⟨rfl, G5, hn⟩
  have HN5 := hide ((unhide HN4).trans hn)
  have HB5 := hide ((unhide HB4).step hn)
  replace c0 := ((unhide HB4).cell hn 0).trans c0
  replace c1 := ((unhide HB4).cell hn 1).trans c1
  replace c2 := ((unhide HB4).cell hn 2).trans c2
  replace c3 := ((unhide HB4).cell hn 3).trans c3
  clear hn
  go_wp2_with fail
  refine Calls.mono (say_new (unhide HN5).pb [kShut] _ _ _ _ _ (by simp) rfl rfl (by simp) (by first | omega | (simp; omega))) ?_
  rintro e w6 ⟨rfl, G6, hn⟩
  have HN6 := hide ((unhide HN5).trans hn)
  clear hn
  go_wp2
  go_end0
  have hz := unhide HN6
  exact ⟨rfl, _, by simpa only [List.append_assoc, List.nil_append, List.cons_append] using hz⟩
end Go.Proofs.YtmcbmmpjhijagaaGreatDoor
