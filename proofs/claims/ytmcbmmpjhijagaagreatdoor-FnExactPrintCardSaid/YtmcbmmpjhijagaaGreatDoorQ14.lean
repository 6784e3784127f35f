import Derived.Test.YtmcbmmpjhijagaaGreatDoorQ13
import Derived.Test.YtmcbmmpjhijagaaGreatDoorQ8
namespace Go.Proofs.YtmcbmmpjhijagaaGreatDoor
open Go Go.RowKit
set_option maxRecDepth 100000 in
set_option maxHeartbeats 4000000 in
theorem wr_7 {p B : Nat} {w : World} {a : Option Addr} {n c : Nat} {xss : List (List (List UInt8))} (h : LW p B 14 (.slice a n c) xss w) : Wrs p B 14 (.iface 86 (.agg #[.slice a n c])) (iL [kUNION, kALL] xss) w := by
  intro W G ws hK hP hl
  have HP := hide hP
  have HK := hide hK
  have Hh := hide (h)
  clear hP hK h
  have m1 := miss1 (s := 86) (by decide)
  have m2 := miss2 (s := 86) (by decide)
  have m3 := miss3 (s := 86) (by decide)
  have m4 := miss4 (s := 86) (by decide)
  have m5 := miss5 (s := 86) (by decide)
  have m6 := miss6 (s := 86) (by decide)
  have m7 := hit7
  go_enter Tryz.func14, Tryz.ntmps14
  have HN0 : Hid (PN p B W (W.alloc (.cells #[.slice a n c] 86)) G G ws) := (PN.refl (unhide HP)).below (bA (Below.refl _ _) _)
  have HB0 : Hid (Bx (W.alloc (.cells #[.slice a n c] 86)) p W.heap.size G) := Bx.made (unhide HP) _ (Nat.le_refl _) (by simp)
  go_wp2_with fail
  refine Calls.mono (new_write (unhide Hh) ((unhide HK).step (unhide HP) (unhide HN0)) (unhide HN0).pb [kUNION, kALL] _ _ _ _ _ (by simp) rfl rfl (by simp) hl) ?_
  rintro e w1 ⟨rfl, G1, hn⟩
  have HN1 := hide ((unhide HN0).trans hn)
  clear hn
  go_wp2
  go_end0
  have hz := unhide HN1
  exact ⟨rfl, _, by simpa only [List.append_assoc, List.nil_append, List.cons_append] using hz⟩
set_option maxRecDepth 100000 in
set_option maxHeartbeats 4000000 in
theorem wr_14 {p B : Nat} {w : World} {a : Option Addr} {n c : Nat} {xss : List (List (List UInt8))} (h : LW p B 43 (.slice a n c) xss w) : Wrs p B 14 (.iface 104 (.agg #[.slice a n c])) (iL [kAND] xss) w := by
  intro W G ws hK hP hl
  have HP := hide hP
  have HK := hide hK
  have Hh := hide (h)
  clear hP hK h
  have m1 := miss1 (s := 104) (by decide)
  have m2 := miss2 (s := 104) (by decide)
  have m3 := miss3 (s := 104) (by decide)
  have m4 := miss4 (s := 104) (by decide)
  have m5 := miss5 (s := 104) (by decide)
  have m6 := miss6 (s := 104) (by decide)
  have m7 := miss7 (s := 104) (by decide)
  have m8 := miss8 (s := 104) (by decide)
  have m9 := miss9 (s := 104) (by decide)
  have m10 := miss10 (s := 104) (by decide)
  have m11 := miss11 (s := 104) (by decide)
  have m12 := miss12 (s := 104) (by decide)
  have m13 := miss13 (s := 104) (by decide)
  have m14 := hit14
  go_enter Tryz.func14, Tryz.ntmps14
  have HN0 : Hid (PN p B W (W.alloc (.cells #[.slice a n c] 104)) G G ws) := (PN.refl (unhide HP)).below (bA (Below.refl _ _) _)
  have HB0 : Hid (Bx (W.alloc (.cells #[.slice a n c] 104)) p W.heap.size G) := Bx.made (unhide HP) _ (Nat.le_refl _) (by simp)
  go_wp2_with fail
  refine Calls.mono (new_writePrim (unhide Hh) ((unhide HK).step (unhide HP) (unhide HN0)) (unhide HN0).pb [kAND] _ _ _ _ _ (by simp) rfl rfl (by simp) hl) ?_
  rintro e w1 ⟨rfl, G1, hn⟩
  have HN1 := hide ((unhide HN0).trans hn)
  clear hn
  go_wp2
  go_end0
  have hz := unhide HN1
  exact ⟨rfl, _, by simpa only [List.append_assoc, List.nil_append, List.cons_append] using hz⟩
set_option maxRecDepth 100000 in
set_option maxHeartbeats 4000000 in
theorem wr_15 {p B : Nat} {w : World} {a : Option Addr} {n c : Nat} {xss : List (List (List UInt8))} (h : LW p B 44 (.slice a n c) xss w) : Wrs p B 14 (.iface 105 (.agg #[.slice a n c])) (iL [kOR] xss) w := by
  intro W G ws hK hP hl
  have HP := hide hP
  have HK := hide hK
  have Hh := hide (h)
  clear hP hK h
  have m1 := miss1 (s := 105) (by decide)
  have m2 := miss2 (s := 105) (by decide)
  have m3 := miss3 (s := 105) (by decide)
  have m4 := miss4 (s := 105) (by decide)
  have m5 := miss5 (s := 105) (by decide)
  have m6 := miss6 (s := 105) (by decide)
  have m7 := miss7 (s := 105) (by decide)
  have m8 := miss8 (s := 105) (by decide)
  have m9 := miss9 (s := 105) (by decide)
  have m10 := miss10 (s := 105) (by decide)
  have m11 := miss11 (s := 105) (by decide)
  have m12 := miss12 (s := 105) (by decide)
  have m13 := miss13 (s := 105) (by decide)
  have m14 := miss14 (s := 105) (by decide)
  have m15 := hit15
  go_enter Tryz.func14, Tryz.ntmps14
  have HN0 : Hid (PN p B W (W.alloc (.cells #[.slice a n c] 105)) G G ws) := (PN.refl (unhide HP)).below (bA (Below.refl _ _) _)
  have HB0 : Hid (Bx (W.alloc (.cells #[.slice a n c] 105)) p W.heap.size G) := Bx.made (unhide HP) _ (Nat.le_refl _) (by simp)
  go_wp2_with fail
  refine Calls.mono (new_writeConj (unhide Hh) ((unhide HK).step (unhide HP) (unhide HN0)) (unhide HN0).pb [kOR] _ _ _ _ _ (by simp) rfl rfl (by simp) hl) ?_
  rintro e w1 ⟨rfl, G1, hn⟩
  have HN1 := hide ((unhide HN0).trans hn)
  clear hn
  go_wp2
  go_end0
  have hz := unhide HN1
  exact ⟨rfl, _, by simpa only [List.append_assoc, List.nil_append, List.cons_append] using hz⟩
end Go.Proofs.YtmcbmmpjhijagaaGreatDoor
namespace Go.Proofs.YtmcbmmpjhijagaaGreatDoor
open Go Go.RowKit
set_option maxRecDepth 100000 in
set_option maxHeartbeats 4000000 in
theorem wr_5 {p B : Nat} {w : World} {s t : ByteArray} {x : List (List UInt8)} (h : Wrs p B 37 (.agg #[.string s, .string t]) x w) : Wrs p B 14 (.iface 80 (.agg #[.string s, .string t])) (x) w := by
  intro W G ws hK hP hl
  have HP := hide hP
  have HK := hide hK
  have Hh := hide (h)
  clear hP hK h
  have m1 := miss1 (s := 80) (by decide)
  have m2 := miss2 (s := 80) (by decide)
  have m3 := miss3 (s := 80) (by decide)
  have m4 := miss4 (s := 80) (by decide)
  have m5 := hit5
  go_enter Tryz.func14, Tryz.ntmps14
  have HN0 : Hid (PN p B W (W.alloc (.cells #[.string s, .string t] 80)) G G ws) := (PN.refl (unhide HP)).below (bA (Below.refl _ _) _)
  have HB0 : Hid (Bx (W.alloc (.cells #[.string s, .string t] 80)) p W.heap.size G) := Bx.made (unhide HP) _ (Nat.le_refl _) (by simp)
  go_wp2_with fail
  refine (unhide Hh _ G _ ((unhide HK).step (unhide HP) (unhide HN0)) (unhide HN0).pb hl).mono ?_
  rintro e w1 ⟨rfl, G1, hn⟩
  have HN1 := hide ((unhide HN0).trans hn)
  clear hn
  go_wp2
  go_end0
  have hz := unhide HN1
  exact ⟨rfl, _, by simpa only [List.append_assoc, List.nil_append, List.cons_append] using hz⟩
set_option maxRecDepth 100000 in
set_option maxHeartbeats 4000000 in
theorem wr_12 {p B : Nat} {w : World} {m n : Int} {t0 t1 : Nat} {v0 v1 : Value} {x : List (List UInt8)} (h : Wrs p B 42 (.agg #[.int .i64 m, .int .i64 n, .iface t0 v0, .iface t1 v1]) x w) : Wrs p B 14 (.iface 99 (.agg #[.int .i64 m, .int .i64 n, .iface t0 v0, .iface t1 v1])) (x) w := by
  intro W G ws hK hP hl
  have HP := hide hP
  have HK := hide hK
  have Hh := hide (h)
  clear hP hK h
  have m1 := miss1 (s := 99) (by decide)
  have m2 := miss2 (s := 99) (by decide)
  have m3 := miss3 (s := 99) (by decide)
  have m4 := miss4 (s := 99) (by decide)
  have m5 := miss5 (s := 99) (by decide)
  have m6 := miss6 (s := 99) (by decide)
  have m7 := miss7 (s := 99) (by decide)
  have m8 := miss8 (s := 99) (by decide)
  have m9 := miss9 (s := 99) (by decide)
  have m10 := miss10 (s := 99) (by decide)
  have m11 := miss11 (s := 99) (by decide)
  have m12 := hit12
  go_enter Tryz.func14, Tryz.ntmps14
  have HN0 : Hid (PN p B W (W.alloc (.cells #[.int .i64 m, .int .i64 n, .iface t0 v0, .iface t1 v1] 99)) G G ws) := (PN.refl (unhide HP)).below (bA (Below.refl _ _) _)
  have HB0 : Hid (Bx (W.alloc (.cells #[.int .i64 m, .int .i64 n, .iface t0 v0, .iface t1 v1] 99)) p W.heap.size G) := Bx.made (unhide HP) _ (Nat.le_refl _) (by simp)
  go_wp2_with fail
  refine (unhide Hh _ G _ ((unhide HK).step (unhide HP) (unhide HN0)) (unhide HN0).pb hl).mono ?_
  rintro e w1 ⟨rfl, G1, hn⟩
  have HN1 := hide ((unhide HN0).trans hn)
  clear hn
  go_wp2
  go_end0
  have hz := unhide HN1
  exact ⟨rfl, _, by simpa only [List.append_assoc, List.nil_append, List.cons_append] using hz⟩
end Go.Proofs.YtmcbmmpjhijagaaGreatDoor
namespace Go.Proofs.YtmcbmmpjhijagaaGreatDoor
open Go Go.RowKit
set_option maxRecDepth 100000 in
set_option maxHeartbeats 4000000 in
theorem wr_4n {p B : Nat} {w : World} {a1 a2 : Option Addr} {n1 c1 n2 c2 : Nat}{m : Int} {x : List (List UInt8)} (h : Wrs p B 36 (.agg #[.slice a1 n1 c1, .slice a2 n2 c2, .nilIface, .int .i64 m]) x w) : Wrs p B 14 (.iface 77 (.agg #[.slice a1 n1 c1, .slice a2 n2 c2, .nilIface, .int .i64 m])) (x) w := by
  intro W G ws hK hP hl
  have HP := hide hP
  have HK := hide hK
  have Hh := hide (h)
  clear hP hK h
  have m1 := miss1 (s := 77) (by decide)
  have m2 := miss2 (s := 77) (by decide)
  have m3 := miss3 (s := 77) (by decide)
  have m4 := hit4
  go_enter Tryz.func14, Tryz.ntmps14
  have HN0 : Hid (PN p B W (W.alloc (.cells #[.slice a1 n1 c1, .slice a2 n2 c2, .nilIface, .int .i64 m] 77)) G G ws) := (PN.refl (unhide HP)).below (bA (Below.refl _ _) _)
  have HB0 : Hid (Bx (W.alloc (.cells #[.slice a1 n1 c1, .slice a2 n2 c2, .nilIface, .int .i64 m] 77)) p W.heap.size G) := Bx.made (unhide HP) _ (Nat.le_refl _) (by simp)
  go_wp2_with fail
  refine (unhide Hh _ G _ ((unhide HK).step (unhide HP) (unhide HN0)) (unhide HN0).pb hl).mono ?_
  rintro e w1 ⟨rfl, G1, hn⟩
  have HN1 := hide ((unhide HN0).trans hn)
  clear hn
  go_wp2
  go_end0
  have hz := unhide HN1
  exact ⟨rfl, _, by simpa only [List.append_assoc, List.nil_append, List.cons_append] using hz⟩
set_option maxRecDepth 100000 in
set_option maxHeartbeats 4000000 in
theorem wr_4i {p B : Nat} {w : World} {a1 a2 : Option Addr} {n1 c1 n2 c2 : Nat}{m : Int} {t : Nat} {v : Value} {x : List (List UInt8)} (h : Wrs p B 36 (.agg #[.slice a1 n1 c1, .slice a2 n2 c2, .iface t v, .int .i64 m]) x w) : Wrs p B 14 (.iface 77 (.agg #[.slice a1 n1 c1, .slice a2 n2 c2, .iface t v, .int .i64 m])) (x) w := by
  intro W G ws hK hP hl
  have HP := hide hP
  have HK := hide hK
  have Hh := hide (h)
  clear hP hK h
  have m1 := miss1 (s := 77) (by decide)
  have m2 := miss2 (s := 77) (by decide)
  have m3 := miss3 (s := 77) (by decide)
  have m4 := hit4
  go_enter Tryz.func14, Tryz.ntmps14
  have HN0 : Hid (PN p B W (W.alloc (.cells #[.slice a1 n1 c1, .slice a2 n2 c2, .iface t v, .int .i64 m] 77)) G G ws) := (PN.refl (unhide HP)).below (bA (Below.refl _ _) _)
  have HB0 : Hid (Bx (W.alloc (.cells #[.slice a1 n1 c1, .slice a2 n2 c2, .iface t v, .int .i64 m] 77)) p W.heap.size G) := Bx.made (unhide HP) _ (Nat.le_refl _) (by simp)
  go_wp2_with fail
  refine (unhide Hh _ G _ ((unhide HK).step (unhide HP) (unhide HN0)) (unhide HN0).pb hl).mono ?_
  rintro e w1 ⟨rfl, G1, hn⟩
  have HN1 := hide ((unhide HN0).trans hn)
  clear hn
  go_wp2
  go_end0
  have hz := unhide HN1
  exact ⟨rfl, _, by simpa only [List.append_assoc, List.nil_append, List.cons_append] using hz⟩
set_option maxRecDepth 100000 in
set_option maxHeartbeats 4000000 in
theorem wr_6n {p B : Nat} {w : World} {a1 a2 : Option Addr} {n1 c1 n2 c2 : Nat}{m : Bool} {x : List (List UInt8)} (h : Wrs p B 38 (.agg #[.slice a1 n1 c1, .slice a2 n2 c2, .nilIface, .bool m]) x w) : Wrs p B 14 (.iface 83 (.agg #[.slice a1 n1 c1, .slice a2 n2 c2, .nilIface, .bool m])) (x) w := by
  intro W G ws hK hP hl
  have HP := hide hP
  have HK := hide hK
  have Hh := hide (h)
  clear hP hK h
  have m1 := miss1 (s := 83) (by decide)
  have m2 := miss2 (s := 83) (by decide)
  have m3 := miss3 (s := 83) (by decide)
  have m4 := miss4 (s := 83) (by decide)
  have m5 := miss5 (s := 83) (by decide)
  have m6 := hit6
  go_enter Tryz.func14, Tryz.ntmps14
  have HN0 : Hid (PN p B W (W.alloc (.cells #[.slice a1 n1 c1, .slice a2 n2 c2, .nilIface, .bool m] 83)) G G ws) := (PN.refl (unhide HP)).below (bA (Below.refl _ _) _)
  have HB0 : Hid (Bx (W.alloc (.cells #[.slice a1 n1 c1, .slice a2 n2 c2, .nilIface, .bool m] 83)) p W.heap.size G) := Bx.made (unhide HP) _ (Nat.le_refl _) (by simp)
  go_wp2_with fail
  refine (unhide Hh _ G _ ((unhide HK).step (unhide HP) (unhide HN0)) (unhide HN0).pb hl).mono ?_
  rintro e w1 ⟨rfl, G1, hn⟩
  have HN1 := hide ((unhide HN0).trans hn)
  clear hn
  go_wp2
  go_end0
  have hz := unhide HN1
  exact ⟨rfl, _, by simpa only [List.append_assoc, List.nil_append, List.cons_append] using hz⟩
set_option maxRecDepth 100000 in
set_option maxHeartbeats 4000000 in
theorem wr_6i {p B : Nat} {w : World} {a1 a2 : Option Addr} {n1 c1 n2 c2 : Nat}{m : Bool} {t : Nat} {v : Value} {x : List (List UInt8)} (h : Wrs p B 38 (.agg #[.slice a1 n1 c1, .slice a2 n2 c2, .iface t v, .bool m]) x w) : Wrs p B 14 (.iface 83 (.agg #[.slice a1 n1 c1, .slice a2 n2 c2, .iface t v, .bool m])) (x) w := by
  intro W G ws hK hP hl
  have HP := hide hP
  have HK := hide hK
  have Hh := hide (h)
  clear hP hK h
  have m1 := miss1 (s := 83) (by decide)
  have m2 := miss2 (s := 83) (by decide)
  have m3 := miss3 (s := 83) (by decide)
  have m4 := miss4 (s := 83) (by decide)
  have m5 := miss5 (s := 83) (by decide)
  have m6 := hit6
  go_enter Tryz.func14, Tryz.ntmps14
  have HN0 : Hid (PN p B W (W.alloc (.cells #[.slice a1 n1 c1, .slice a2 n2 c2, .iface t v, .bool m] 83)) G G ws) := (PN.refl (unhide HP)).below (bA (Below.refl _ _) _)
  have HB0 : Hid (Bx (W.alloc (.cells #[.slice a1 n1 c1, .slice a2 n2 c2, .iface t v, .bool m] 83)) p W.heap.size G) := Bx.made (unhide HP) _ (Nat.le_refl _) (by simp)
  go_wp2_with fail
  refine (unhide Hh _ G _ ((unhide HK).step (unhide HP) (unhide HN0)) (unhide HN0).pb hl).mono ?_
  rintro e w1 ⟨rfl, G1, hn⟩
  have HN1 := hide ((unhide HN0).trans hn)
  clear hn
  go_wp2
  go_end0
  have hz := unhide HN1
  exact ⟨rfl, _, by simpa only [List.append_assoc, List.nil_append, List.cons_append] using hz⟩
end Go.Proofs.YtmcbmmpjhijagaaGreatDoor
namespace Go.Proofs.YtmcbmmpjhijagaaGreatDoor
open Go Go.RowKit
set_option maxRecDepth 100000 in
set_option maxHeartbeats 4000000 in
theorem wr_1 {p B : Nat} {w : World} (N : Int) (h0 : -9223372036854775808 ≤ N) (h1 : N ≤ 9223372036854775807) (hp : 8 ≤ p) (hpB : p < B) (hT : TP w) : Wrs p B 14 (.iface 66 (.agg #[.int .i64 N])) ([Lib.itoa N]) w := by
  intro W G ws hK hP hl
  simp at hl
  have HP := hide hP
  have HK := hide hK
  have HhT := hide (hT)
  clear hP hK hT
  have m1 := hit1
  go_enter Tryz.func14, Tryz.ntmps14
  have HN0 : Hid (PN p B W (W.alloc (.cells #[.int .i64 N] 66)) G G ws) := (PN.refl (unhide HP)).below (bA (Below.refl _ _) _)
  have HB0 : Hid (Bx (W.alloc (.cells #[.int .i64 N] 66)) p W.heap.size G) := Bx.made (unhide HP) _ (Nat.le_refl _) (by simp)
  go_wp2_with fail
  refine Calls.mono (fmt_calls N h0 h1 _ ((unhide HhT).kp ((unhide HK).step (unhide HP) (unhide HN0)) hp hpB)) ?_
  rintro e w1 ⟨rfl, hb⟩
  have HN1 := hide ((unhide HN0).below hb)
  have HB1 : Hid (Bx w1 p W.heap.size G) := ⟨Nat.lt_of_lt_of_le (unhide HB0).lt hb.size, (unhide HB0).np, (unhide HB0).ng⟩
  clear hb
  go_wp2_with fail
  refine Calls.mono (say_new (unhide HN1).pb [Lib.itoa N] _ _ _ _ _ (by simp) rfl rfl (by simp) (by first | omega | (simp; omega))) ?_
  rintro e w2 ⟨rfl, G2, hn⟩
  have HN2 := hide ((unhide HN1).trans hn)
  clear hn
  go_wp2
  go_end0
  have hz := unhide HN2
  exact ⟨rfl, _, by simpa only [List.append_assoc, List.nil_append, List.cons_append] using hz⟩
set_option maxRecDepth 100000 in
set_option maxHeartbeats 4000000 in
theorem wr_3 {p B : Nat} {w : World} (s : ByteArray) (N : Int) (h0 : -9223372036854775808 ≤ N) (h1 : N ≤ 9223372036854775807) (hp : 8 ≤ p) (hpB : p < B) (hT : TP w) : Wrs p B 14 (.iface 72 (.agg #[.string s, .int .i64 N])) ([s.toList, kDot, Lib.itoa N]) w := by
  intro W G ws hK hP hl
  simp at hl
  have HP := hide hP
  have HK := hide hK
  have HhT := hide (hT)
  clear hP hK hT
  have m1 := miss1 (s := 72) (by decide)
  have m2 := miss2 (s := 72) (by decide)
  have m3 := hit3
  go_enter Tryz.func14, Tryz.ntmps14
  have HN0 : Hid (PN p B W (W.alloc (.cells #[.string s, .int .i64 N] 72)) G G ws) := (PN.refl (unhide HP)).below (bA (Below.refl _ _) _)
  have HB0 : Hid (Bx (W.alloc (.cells #[.string s, .int .i64 N] 72)) p W.heap.size G) := Bx.made (unhide HP) _ (Nat.le_refl _) (by simp)
  go_upto_region 9 with fail
  have HN1 := hide ((unhide HN0).below (Below.drew (Below.refl _ _)))
  have HB1 : Hid (Bx (W.alloc (.cells #[.string s, .int .i64 N] 72)).drew p W.heap.size G) := ⟨by simp, (unhide HB0).np, (unhide HB0).ng⟩
  refine wp_region_held_drew (S := fun x => x.cell? ⟨W.heap.size, 0, none⟩ = some (.string s) ∧ x.cell? ⟨W.heap.size, 1, none⟩ = some (.int .i64 N)) (by kernel_rfl) (by constructor <;> simp [go_sem]) (fun hHeld => ?_)
  refine tW 0 38 (.pointer (some ⟨p, 0, none⟩)) ?_
  simp only [puts]
  refine tW 1 39 (.pointer (some ⟨W.heap.size, 0, none⟩)) ?_
  simp only [puts]
  refine tW 2 40 (.string s) ?_
  simp only [puts]
  refine tW 3 41 (.pointer (some ⟨W.heap.size, 1, none⟩)) ?_
  simp only [puts]
  refine tW 4 42 (.int .i64 N) ?_
  simp only [puts]
  refine wpAnyH_ready (rs := [5]) (by kernel_rfl) (by simp) ?_
  refine AllReadyH.cons rfl (fun Kx hK => ?_) AllReadyH.nil
  go_simp
  refine Calls.mono (fmt_calls N h0 h1 _ ((unhide HhT).kp ((unhide HK).step (unhide HP) (unhide HN1)) hp hpB)) ?_
  rintro e w2 ⟨rfl, hb⟩
  have HN2 := hide ((unhide HN1).below hb)
  have hcl : ∀ o, w2.cell? ⟨W.heap.size, o, none⟩ = (W.alloc (.cells #[.string s, .int .i64 N] 72)).drew.cell? ⟨W.heap.size, o, none⟩ := fun o => World.cell?_of_block (a := ⟨W.heap.size, o, none⟩) (hb.block W.heap.size (by simp))
  have hlt : W.heap.size < w2.heap.size := Nat.lt_of_lt_of_le (by simp) hb.size
  clear hb
  refine hK.out _ _ ⟨by rw [hcl]; simp [go_sem], by rw [hcl]; simp [go_sem]⟩ (fun hHeld2 => ?_)
  clear hK Kx
  refine wpAnyH_ready (rs := [6]) (by kernel_rfl) (by simp) ?_
  refine AllReadyH.cons rfl (fun Kx hK => ?_) AllReadyH.nil
  go_simp
  refine hK.out _ _ ⟨by rw [World.cell?_alloc_some _ _ _ (by rw [hHeld2.1]; rfl)]; exact hHeld2.1, by rw [World.cell?_alloc_some _ _ _ (by rw [hHeld2.2]; rfl)]; exact hHeld2.2⟩ (fun hHeld3 => ?_)
  clear hK Kx
  refine wpAnyH_ready (rs := [7]) (by kernel_rfl) (by simp) ?_
  refine AllReadyH.cons rfl (fun Kx hK => ?_) AllReadyH.nil
  go_simp
  refine Calls.mono (say_new (unhide HN2).pb [s.toList, kDot, Lib.itoa N] _ _ _ _ _ (by simp) (by simp [strs, ← eq_mkS]; rfl) rfl (by simp) (by first | omega | (simp; omega))) ?_
  rintro e w3 ⟨rfl, G3, hn⟩
  have HN3 := hide ((unhide HN2).trans hn)
  have HB2 : Hid (Bx w2 p W.heap.size G) := ⟨hlt, (unhide HB0).np, (unhide HB0).ng⟩
  refine hK.out _ _ ⟨((unhide HB2).cell hn 0).trans hHeld2.1, ((unhide HB2).cell hn 1).trans hHeld2.2⟩ (fun hHeld4 => ?_)
  clear hK Kx hn
  refine wpAnyH_done (by kernel_rfl) ?_ _
  go_wp2
  go_end0
  have hz := unhide HN3
  exact ⟨rfl, _, by simpa only [List.append_assoc, List.nil_append, List.cons_append] using hz⟩
end Go.Proofs.YtmcbmmpjhijagaaGreatDoor
