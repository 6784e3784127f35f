import Derived.Test.YtmcbmmpjhijagaaGreatDoorQ13
namespace Go.Proofs.YtmcbmmpjhijagaaGreatDoor
open Go Go.RowKit
set_option maxRecDepth 100000 in
set_option maxHeartbeats 4000000 in
theorem src_same {p B : Nat} {w : World} {s : ByteArray} : Wrs p B 37 (.agg #[.string s, .string s]) ([s.toList]) w := by
  intro W G ws hK hP hl
  simp at hl
  have HP := hide hP
  have HK := hide hK
  clear hP hK
  go_enter Tryz.func37, Tryz.ntmps37
  have HN0 : Hid (PN p B W (W.alloc (.cells #[.string s, .string s] 80)) G G ws) := (PN.refl (unhide HP)).below (bA (Below.refl _ _) _)
  have HB0 : Hid (Bx (W.alloc (.cells #[.string s, .string s] 80)) p W.heap.size G) := Bx.made (unhide HP) _ (Nat.le_refl _) (by simp)
  go_wp2_with fail
  refine Calls.mono (say_new (unhide HN0).pb [s.toList] _ _ _ _ _ (by simp) (by simp [strs, ← eq_mkS]) rfl (by simp) (by first | omega | (simp; omega))) ?_
  rintro e w1 ⟨rfl, G1, hn⟩
  have HN1 := hide ((unhide HN0).trans hn)
  have HB1 := hide ((unhide HB0).step hn)
  have c0 : w1.cell? ⟨W.heap.size, 0, none⟩ = some (.string s) := ((unhide HB0).cell hn 0).trans (by simp [go_sem])
  have c1 : w1.cell? ⟨W.heap.size, 1, none⟩ = some (.string s) := ((unhide HB0).cell hn 1).trans (by simp [go_sem])
  clear hn
  go_wp2
  go_end0
  have hz := unhide HN1
  exact ⟨rfl, _, by simpa only [List.append_assoc, List.nil_append, List.cons_append] using hz⟩
set_option maxRecDepth 100000 in
set_option maxHeartbeats 4000000 in
theorem src_two {p B : Nat} {w : World} {s t : ByteArray} (hne : (t.toList == s.toList) = false) : Wrs p B 37 (.agg #[.string s, .string t]) ([s.toList, t.toList]) w := by
  intro W G ws hK hP hl
  simp at hl
  have HP := hide hP
  have HK := hide hK
  clear hP hK
  go_enter Tryz.func37, Tryz.ntmps37
  have HN0 : Hid (PN p B W (W.alloc (.cells #[.string s, .string t] 80)) G G ws) := (PN.refl (unhide HP)).below (bA (Below.refl _ _) _)
  have HB0 : Hid (Bx (W.alloc (.cells #[.string s, .string t] 80)) p W.heap.size G) := Bx.made (unhide HP) _ (Nat.le_refl _) (by simp)
  go_wp2_with fail
  refine Calls.mono (say_new (unhide HN0).pb [s.toList] _ _ _ _ _ (by simp) (by simp [strs, ← eq_mkS]) rfl (by simp) (by first | omega | (simp; omega))) ?_
  rintro e w1 ⟨rfl, G1, hn⟩
  have HN1 := hide ((unhide HN0).trans hn)
  have HB1 := hide ((unhide HB0).step hn)
  have c0 : w1.cell? ⟨W.heap.size, 0, none⟩ = some (.string s) := ((unhide HB0).cell hn 0).trans (by simp [go_sem])
  have c1 : w1.cell? ⟨W.heap.size, 1, none⟩ = some (.string t) := ((unhide HB0).cell hn 1).trans (by simp [go_sem])
  clear hn
  go_wp2_with fail
  refine Calls.mono (say_new (unhide HN1).pb [t.toList] _ _ _ _ _ (by simp) (by simp [strs, ← eq_mkS]) rfl (by simp) (by first | omega | (simp; omega))) ?_
  rintro e w2 ⟨rfl, G2, hn⟩
  have HN2 := hide ((unhide HN1).trans hn)
  clear hn
  go_wp2
  go_end0
  have hz := unhide HN2
  exact ⟨rfl, _, by simpa only [List.append_assoc, List.nil_append, List.cons_append] using hz⟩
set_option maxRecDepth 100000 in
set_option maxHeartbeats 4000000 in
theorem quant_one {p B : Nat} {w : World} (M : Int) (h1 : 1 ≤ M) (h2 : M ≤ 6) (hp : 8 ≤ p) (hpB : p < B) (hT : TP w) {t0 t1 : Nat} {v0 v1 : Value} {x0 x1 : List (List UInt8)} (k0 : Wrs p B 14 (.iface t0 v0) x0 w) (k1 : Wrs p B 14 (.iface t1 v1) x1 w) : Wrs p B 42 (.agg #[.int .i64 M, .int .i64 1, .iface t0 v0, .iface t1 v1]) (x0 ++ [comp M, kANY, kOpen] ++ x1 ++ [kShut]) w := by
  intro W G ws hK hP hl
  simp at hl
  have HP := hide hP
  have HK := hide hK
  have Hk0 := hide (k0)
  have Hk1 := hide (bracketed_wrs k1)
  have HhT := hide (hT)
  clear hP hK k0 k1 hT
  go_enter Tryz.func42, Tryz.ntmps42
  have HN0 : Hid (PN p B W (W.alloc (.cells #[.int .i64 M, .int .i64 1, .iface t0 v0, .iface t1 v1] 99)) G G ws) := (PN.refl (unhide HP)).below (bA (Below.refl _ _) _)
  have HB0 : Hid (Bx (W.alloc (.cells #[.int .i64 M, .int .i64 1, .iface t0 v0, .iface t1 v1] 99)) p W.heap.size G) := Bx.made (unhide HP) _ (Nat.le_refl _) (by simp)
  go_wp2_with fail
  refine (unhide Hk0 _ G _ ((unhide HK).step (unhide HP) (unhide HN0)) (unhide HN0).pb (by first | omega | (simp; omega))).mono ?_
  rintro e w1 ⟨rfl, G1, hn⟩
  have HN1 := hide ((unhide HN0).trans hn)
  have HB1 := hide ((unhide HB0).step hn)
  have c0 : w1.cell? ⟨W.heap.size, 0, none⟩ = some (.int .i64 M) := ((unhide HB0).cell hn 0).trans (by simp [go_sem])
  have c1 : w1.cell? ⟨W.heap.size, 1, none⟩ = some (.int .i64 1) := ((unhide HB0).cell hn 1).trans (by simp [go_sem])
  have c2 : w1.cell? ⟨W.heap.size, 2, none⟩ = some (.iface t0 v0) := ((unhide HB0).cell hn 2).trans (by simp [go_sem])
  have c3 : w1.cell? ⟨W.heap.size, 3, none⟩ = some (.iface t1 v1) := ((unhide HB0).cell hn 3).trans (by simp [go_sem])
  clear hn
  have hcm : w1.cell? ⟨0, M.toNat, none⟩ = some (.string (mkS (comp M))) := comp_look ((unhide HhT).kp ((unhide HK).step (unhide HP) (unhide HN1)) hp hpB) h1 h2
  go_wp2_with fail
  refine Calls.mono (say_new (unhide HN1).pb [comp M] _ _ _ _ _ (by simp) rfl rfl (by simp) (by first | omega | (simp; omega))) ?_
  rintro e w2 ⟨rfl, G2, hn⟩
  have HN2 := hide ((unhide HN1).trans hn)
  have HB2 := hide ((unhide HB1).step hn)
  replace c0 := ((unhide HB1).cell hn 0).trans c0
  replace c1 := ((unhide HB1).cell hn 1).trans c1
  replace c2 := ((unhide HB1).cell hn 2).trans c2
  replace c3 := ((unhide HB1).cell hn 3).trans c3
  clear hn
  clear hcm
  go_wp2_with fail
  refine Calls.mono (say_new (unhide HN2).pb [kANY] _ _ _ _ _ (by simp) rfl rfl (by simp) (by first | omega | (simp; omega))) ?_
  rintro e w3 ⟨rfl, G3, hn⟩
  have HN3 := hide ((unhide HN2).trans hn)
  have HB3 := hide ((unhide HB2).step hn)
  replace c0 := ((unhide HB2).cell hn 0).trans c0
  replace c1 := ((unhide HB2).cell hn 1).trans c1
  replace c2 := ((unhide HB2).cell hn 2).trans c2
  replace c3 := ((unhide HB2).cell hn 3).trans c3
  clear hn
  go_wp2_with fail
  refine (unhide Hk1 _ G3 _ ((unhide HK).step (unhide HP) (unhide HN3)) (unhide HN3).pb (by first | omega | (simp; omega))).mono ?_
  rintro e w4 ⟨rfl, G4, hn⟩
  have HN4 := hide ((unhide HN3).trans hn)
  clear hn
  go_wp2
  go_end0
  have hz := unhide HN4
  exact ⟨rfl, _, by simpa only [List.append_assoc, List.nil_append, List.cons_append] using hz⟩
set_option maxRecDepth 100000 in
set_option maxHeartbeats 4000000 in
theorem quant_two {p B : Nat} {w : World} (M : Int) (h1 : 1 ≤ M) (h2 : M ≤ 6) (hp : 8 ≤ p) (hpB : p < B) (hT : TP w) {t0 t1 : Nat} {v0 v1 : Value} {x0 x1 : List (List UInt8)} (k0 : Wrs p B 14 (.iface t0 v0) x0 w) (k1 : Wrs p B 14 (.iface t1 v1) x1 w) : Wrs p B 42 (.agg #[.int .i64 M, .int .i64 2, .iface t0 v0, .iface t1 v1]) (x0 ++ [comp M, kALL, kOpen] ++ x1 ++ [kShut]) w := by
  intro W G ws hK hP hl
  simp at hl
  have HP := hide hP
  have HK := hide hK
  have Hk0 := hide (k0)
  have Hk1 := hide (bracketed_wrs k1)
  have HhT := hide (hT)
  clear hP hK k0 k1 hT
  go_enter Tryz.func42, Tryz.ntmps42
  have HN0 : Hid (PN p B W (W.alloc (.cells #[.int .i64 M, .int .i64 2, .iface t0 v0, .iface t1 v1] 99)) G G ws) := (PN.refl (unhide HP)).below (bA (Below.refl _ _) _)
  have HB0 : Hid (Bx (W.alloc (.cells #[.int .i64 M, .int .i64 2, .iface t0 v0, .iface t1 v1] 99)) p W.heap.size G) := Bx.made (unhide HP) _ (Nat.le_refl _) (by simp)
  go_wp2_with fail
  refine (unhide Hk0 _ G _ ((unhide HK).step (unhide HP) (unhide HN0)) (unhide HN0).pb (by first | omega | (simp; omega))).mono ?_
  rintro e w1 ⟨rfl, G1, hn⟩
  have HN1 := hide ((unhide HN0).trans hn)
  have HB1 := hide ((unhide HB0).step hn)
  have c0 : w1.cell? ⟨W.heap.size, 0, none⟩ = some (.int .i64 M) := ((unhide HB0).cell hn 0).trans (by simp [go_sem])
  have c1 : w1.cell? ⟨W.heap.size, 1, none⟩ = some (.int .i64 2) := ((unhide HB0).cell hn 1).trans (by simp [go_sem])
  have c2 : w1.cell? ⟨W.heap.size, 2, none⟩ = some (.iface t0 v0) := ((unhide HB0).cell hn 2).trans (by simp [go_sem])
  have c3 : w1.cell? ⟨W.heap.size, 3, none⟩ = some (.iface t1 v1) := ((unhide HB0).cell hn 3).trans (by simp [go_sem])
  clear hn
  have hcm : w1.cell? ⟨0, M.toNat, none⟩ = some (.string (mkS (comp M))) := comp_look ((unhide HhT).kp ((unhide HK).step (unhide HP) (unhide HN1)) hp hpB) h1 h2
  go_wp2_with fail
  refine Calls.mono (say_new (unhide HN1).pb [comp M] _ _ _ _ _ (by simp) rfl rfl (by simp) (by first | omega | (simp; omega))) ?_
  rintro e w2 ⟨rfl, G2, hn⟩
  have HN2 := hide ((unhide HN1).trans hn)
  have HB2 := hide ((unhide HB1).step hn)
  replace c0 := ((unhide HB1).cell hn 0).trans c0
  replace c1 := ((unhide HB1).cell hn 1).trans c1
  replace c2 := ((unhide HB1).cell hn 2).trans c2
  replace c3 := ((unhide HB1).cell hn 3).trans c3
  clear hn
  clear hcm
  go_wp2_with fail
  refine Calls.mono (say_new (unhide HN2).pb [kALL] _ _ _ _ _ (by simp) rfl rfl (by simp) (by first | omega | (simp; omega))) ?_
  rintro e w3 ⟨rfl, G3, hn⟩
  have HN3 := hide ((unhide HN2).trans hn)
  have HB3 := hide ((unhide HB2).step hn)
  replace c0 := ((unhide HB2).cell hn 0).trans c0
  replace c1 := ((unhide HB2).cell hn 1).trans c1
  replace c2 := ((unhide HB2).cell hn 2).trans c2
  replace c3 := ((unhide HB2).cell hn 3).trans c3
  clear hn
  go_wp2_with fail
  refine (unhide Hk1 _ G3 _ ((unhide HK).step (unhide HP) (unhide HN3)) (unhide HN3).pb (by first | omega | (simp; omega))).mono ?_
  rintro e w4 ⟨rfl, G4, hn⟩
  have HN4 := hide ((unhide HN3).trans hn)
  clear hn
  go_wp2
  go_end0
  have hz := unhide HN4
  exact ⟨rfl, _, by simpa only [List.append_assoc, List.nil_append, List.cons_append] using hz⟩
end Go.Proofs.YtmcbmmpjhijagaaGreatDoor
namespace Go.Proofs.YtmcbmmpjhijagaaGreatDoor
open Go Go.RowKit
set_option maxRecDepth 100000 in
set_option maxHeartbeats 4000000 in
theorem tail_n {p B : Nat} {w : World} {a1 a2 : Option Addr} {n1 c1 n2 c2 : Nat} {xss : List (List (List UInt8))} (k0 : LW p B 14 (.slice a2 n2 c2) xss w) : Wrs p B 64 (.agg #[.slice a1 n1 c1, .slice a2 n2 c2, .nilIface]) ([kFROM] ++ iL [kComma] xss) w := by
  intro W G ws hK hP hl
  simp at hl
  have HP := hide hP
  have HK := hide hK
  have Hk0 := hide (k0)
  clear hP hK k0
  go_enter Tryz.func64, Tryz.ntmps64
  have HN0 : Hid (PN p B W (W.alloc (.cells #[.slice a1 n1 c1, .slice a2 n2 c2, .nilIface] 75)) G G ws) := (PN.refl (unhide HP)).below (bA (Below.refl _ _) _)
  have HB0 : Hid (Bx (W.alloc (.cells #[.slice a1 n1 c1, .slice a2 n2 c2, .nilIface] 75)) p W.heap.size G) := Bx.made (unhide HP) _ (Nat.le_refl _) (by simp)
  go_wp2_with fail
  refine Calls.mono (say_new (unhide HN0).pb [kFROM] _ _ _ _ _ (by simp) rfl rfl (by simp) (by first | omega | (simp; omega))) ?_
  rintro e w1 ⟨rfl, G1, hn⟩
  have HN1 := hide ((unhide HN0).trans hn)
  have HB1 := hide ((unhide HB0).step hn)
  have c0 : w1.cell? ⟨W.heap.size, 0, none⟩ = some (.slice a1 n1 c1) := ((unhide HB0).cell hn 0).trans (by simp [go_sem])
  have c1 : w1.cell? ⟨W.heap.size, 1, none⟩ = some (.slice a2 n2 c2) := ((unhide HB0).cell hn 1).trans (by simp [go_sem])
  have c2 : w1.cell? ⟨W.heap.size, 2, none⟩ = some (.nilIface) := ((unhide HB0).cell hn 2).trans (by simp [go_sem])
  clear hn
  go_wp2_with fail
  refine Calls.mono (new_write (unhide Hk0) ((unhide HK).step (unhide HP) (unhide HN1)) (unhide HN1).pb [kComma] _ _ _ _ _ (by simp) rfl rfl (by simp) (by first | omega | (simp; omega))) ?_
  rintro e w2 ⟨rfl, G2, hn⟩
  have HN2 := hide ((unhide HN1).trans hn)
  have HB2 := hide ((unhide HB1).step hn)
  replace c0 := ((unhide HB1).cell hn 0).trans c0
  replace c1 := ((unhide HB1).cell hn 1).trans c1
  replace c2 := ((unhide HB1).cell hn 2).trans c2
  clear hn
  go_wp2
  go_end0
  have hz := unhide HN2
  exact ⟨rfl, _, by simpa only [List.append_assoc, List.nil_append, List.cons_append] using hz⟩
set_option maxRecDepth 100000 in
set_option maxHeartbeats 4000000 in
theorem tail_i {p B : Nat} {w : World} {a1 a2 : Option Addr} {n1 c1 n2 c2 : Nat} {xss : List (List (List UInt8))} (k0 : LW p B 14 (.slice a2 n2 c2) xss w) {t : Nat} {v : Value} {x : List (List UInt8)} (k1 : Wrs p B 14 (.iface t v) x w) : Wrs p B 64 (.agg #[.slice a1 n1 c1, .slice a2 n2 c2, .iface t v]) ([kFROM] ++ iL [kComma] xss ++ ([kWHERE] ++ x)) w := by
  intro W G ws hK hP hl
  simp at hl
  have HP := hide hP
  have HK := hide hK
  have Hk0 := hide (k0)
  have Hk1 := hide (k1)
  clear hP hK k0 k1
  go_enter Tryz.func64, Tryz.ntmps64
  have HN0 : Hid (PN p B W (W.alloc (.cells #[.slice a1 n1 c1, .slice a2 n2 c2, .iface t v] 75)) G G ws) := (PN.refl (unhide HP)).below (bA (Below.refl _ _) _)
  have HB0 : Hid (Bx (W.alloc (.cells #[.slice a1 n1 c1, .slice a2 n2 c2, .iface t v] 75)) p W.heap.size G) := Bx.made (unhide HP) _ (Nat.le_refl _) (by simp)
  go_wp2_with fail
  refine Calls.mono (say_new (unhide HN0).pb [kFROM] _ _ _ _ _ (by simp) rfl rfl (by simp) (by first | omega | (simp; omega))) ?_
  rintro e w1 ⟨rfl, G1, hn⟩
  have HN1 := hide ((unhide HN0).trans hn)
  have HB1 := hide ((unhide HB0).step hn)
  have c0 : w1.cell? ⟨W.heap.size, 0, none⟩ = some (.slice a1 n1 c1) := ((unhide HB0).cell hn 0).trans (by simp [go_sem])
  have c1 : w1.cell? ⟨W.heap.size, 1, none⟩ = some (.slice a2 n2 c2) := ((unhide HB0).cell hn 1).trans (by simp [go_sem])
  have c2 : w1.cell? ⟨W.heap.size, 2, none⟩ = some (.iface t v) := ((unhide HB0).cell hn 2).trans (by simp [go_sem])
  clear hn
  go_wp2_with fail
  refine Calls.mono (new_write (unhide Hk0) ((unhide HK).step (unhide HP) (unhide HN1)) (unhide HN1).pb [kComma] _ _ _ _ _ (by simp) rfl rfl (by simp) (by first | omega | (simp; omega))) ?_
  rintro e w2 ⟨rfl, G2, hn⟩
  have HN2 := hide ((unhide HN1).trans hn)
  have HB2 := hide ((unhide HB1).step hn)
  replace c0 := ((unhide HB1).cell hn 0).trans c0
  replace c1 := ((unhide HB1).cell hn 1).trans c1
  replace c2 := ((unhide HB1).cell hn 2).trans c2
  clear hn
  go_wp2_with fail
  refine Calls.mono (say_new (unhide HN2).pb [kWHERE] _ _ _ _ _ (by simp) rfl rfl (by simp) (by first | omega | (simp; omega))) ?_
  rintro e w3 ⟨rfl, G3, hn⟩
  have HN3 := hide ((unhide HN2).trans hn)
  have HB3 := hide ((unhide HB2).step hn)
  replace c0 := ((unhide HB2).cell hn 0).trans c0
  replace c1 := ((unhide HB2).cell hn 1).trans c1
  replace c2 := ((unhide HB2).cell hn 2).trans c2
  clear hn
  go_wp2_with fail
  refine (unhide Hk1 _ G3 _ ((unhide HK).step (unhide HP) (unhide HN3)) (unhide HN3).pb (by first | omega | (simp; omega))).mono ?_
  rintro e w4 ⟨rfl, G4, hn⟩
  have HN4 := hide ((unhide HN3).trans hn)
  clear hn
  go_wp2
  go_end0
  have hz := unhide HN4
  exact ⟨rfl, _, by simpa only [List.append_assoc, List.nil_append, List.cons_append] using hz⟩
end Go.Proofs.YtmcbmmpjhijagaaGreatDoor
