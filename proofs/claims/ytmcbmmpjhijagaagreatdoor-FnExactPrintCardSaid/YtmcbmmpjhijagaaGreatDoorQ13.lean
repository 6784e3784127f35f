import Derived.Test.YtmcbmmpjhijagaaGreatDoorQ12
namespace Go.Proofs.YtmcbmmpjhijagaaGreatDoor
open Go Go.RowKit
def LW (p B fn : Nat) (l : Value) (xss : List (List (List UInt8))) (w : World) : Prop := ∃ (g o c : Nat) (us : List Value), l = .slice (some ⟨g, o, none⟩) us.length c ∧ us.length = xss.length ∧ (∀ (j : Nat) u, us[j]? = some u → w.cell? ⟨g, o + j, none⟩ = some u) ∧ g < B ∧ g ≠ p ∧ us.length ≤ 1000000 ∧
  ∀ (j : Nat) u xs, us[j]? = some u → xss[j]? = some xs → Wrs p B fn u xs w
theorem new_write {p B : Nat} {w : World} {l : Value} {xss : List (List (List UInt8))} (h : LW p B 14 l xss w) {W : World} {G : Option Nat} {ws : List (List UInt8)} (hK : Kp p B w W) (hP : PB W p B G ws) (sep : List (List UInt8)) (C : Array Value) (t : TypeId) (b n c : Nat) (hb : W.heap.size = b) (hC : C = (strs sep).toArray) (hn : n = sep.length) (hm : 0 < sep.length) (hl : ws.length + (iL sep xss).length ≤ 100000000) :
    Calls Tryz.prog 39 #[.pointer (some ⟨p, 0, none⟩), l, .func (.func 14) #[.pointer (some ⟨p, 0, none⟩)] #[], .slice (some ⟨b, 0, none⟩) n c] (W.alloc (.cells C t)) fun e w' => e = .returned (.tuple #[]) ∧ ∃ Gn, PN p B W w' G Gn (ws ++ iL sep xss) := by
  obtain ⟨g, o, c1, us, rfl, h1, h2, h3, h4, h5, h6⟩ := h
  subst hn hC hb
  have hb := bA (Below.refl W.heap.size W) (.cells (strs sep).toArray t)
  refine (list_write us xss h1 h2 h3 h4 h6 _ G ws sep _ (hK.below hb) (hP.below hb) hl h5 (Or.inr ⟨_, _, rfl, hm, Bx.made hP _ (Nat.le_refl _) (by simp), fun j u hj => ?_⟩)).mono ?_
  · rw [World.cell?_alloc_at _ t _ (0 + j) rfl]
    simpa using hj
  · rintro e w1 ⟨rfl, Gn, h⟩
    exact ⟨rfl, Gn, h.ahead hb⟩
theorem new_writePrim {p B : Nat} {w : World} {l : Value} {xss : List (List (List UInt8))} (h : LW p B 43 l xss w) {W : World} {G : Option Nat} {ws : List (List UInt8)} (hK : Kp p B w W) (hP : PB W p B G ws) (sep : List (List UInt8)) (C : Array Value) (t : TypeId) (b n c : Nat) (hb : W.heap.size = b) (hC : C = (strs sep).toArray) (hn : n = sep.length) (hm : 0 < sep.length) (hl : ws.length + (iL sep xss).length ≤ 100000000) :
    Calls Tryz.prog 39 #[.pointer (some ⟨p, 0, none⟩), l, .func (.func 43) #[.pointer (some ⟨p, 0, none⟩)] #[], .slice (some ⟨b, 0, none⟩) n c] (W.alloc (.cells C t)) fun e w' => e = .returned (.tuple #[]) ∧ ∃ Gn, PN p B W w' G Gn (ws ++ iL sep xss) := by
  obtain ⟨g, o, c1, us, rfl, h1, h2, h3, h4, h5, h6⟩ := h
  subst hn hC hb
  have hb := bA (Below.refl W.heap.size W) (.cells (strs sep).toArray t)
  refine (list_writePrim us xss h1 h2 h3 h4 h6 _ G ws sep _ (hK.below hb) (hP.below hb) hl h5 (Or.inr ⟨_, _, rfl, hm, Bx.made hP _ (Nat.le_refl _) (by simp), fun j u hj => ?_⟩)).mono ?_
  · rw [World.cell?_alloc_at _ t _ (0 + j) rfl]
    simpa using hj
  · rintro e w1 ⟨rfl, Gn, h⟩
    exact ⟨rfl, Gn, h.ahead hb⟩
theorem new_writeConj {p B : Nat} {w : World} {l : Value} {xss : List (List (List UInt8))} (h : LW p B 44 l xss w) {W : World} {G : Option Nat} {ws : List (List UInt8)} (hK : Kp p B w W) (hP : PB W p B G ws) (sep : List (List UInt8)) (C : Array Value) (t : TypeId) (b n c : Nat) (hb : W.heap.size = b) (hC : C = (strs sep).toArray) (hn : n = sep.length) (hm : 0 < sep.length) (hl : ws.length + (iL sep xss).length ≤ 100000000) :
    Calls Tryz.prog 39 #[.pointer (some ⟨p, 0, none⟩), l, .func (.func 44) #[.pointer (some ⟨p, 0, none⟩)] #[], .slice (some ⟨b, 0, none⟩) n c] (W.alloc (.cells C t)) fun e w' => e = .returned (.tuple #[]) ∧ ∃ Gn, PN p B W w' G Gn (ws ++ iL sep xss) := by
  obtain ⟨g, o, c1, us, rfl, h1, h2, h3, h4, h5, h6⟩ := h
  subst hn hC hb
  have hb := bA (Below.refl W.heap.size W) (.cells (strs sep).toArray t)
  refine (list_writeConj us xss h1 h2 h3 h4 h6 _ G ws sep _ (hK.below hb) (hP.below hb) hl h5 (Or.inr ⟨_, _, rfl, hm, Bx.made hP _ (Nat.le_refl _) (by simp), fun j u hj => ?_⟩)).mono ?_
  · rw [World.cell?_alloc_at _ t _ (0 + j) rfl]
    simpa using hj
  · rintro e w1 ⟨rfl, Gn, h⟩
    exact ⟨rfl, Gn, h.ahead hb⟩
theorem one_write {p B : Nat} {w : World} {l : Value} {xss : List (List (List UInt8))} (h : LW p B 14 l xss w) {W : World} {G : Option Nat} {ws : List (List UInt8)} (hK : Kp p B w W) (hP : PB W p B G ws) (h1 : xss.length ≤ 1) (bv : Value) (hl : ws.length + (iL [] xss).length ≤ 100000000) :
    Calls Tryz.prog 39 #[.pointer (some ⟨p, 0, none⟩), l, .func (.func 14) #[.pointer (some ⟨p, 0, none⟩)] #[], bv] W fun e w' => e = .returned (.tuple #[]) ∧ ∃ Gn, PN p B W w' G Gn (ws ++ iL [] xss) := by
  obtain ⟨g, o, c1, us, rfl, e1, h2, h3, h4, h5, h6⟩ := h
  exact list_write us xss e1 h2 h3 h4 h6 _ G ws [] _ hK hP hl h5 (Or.inl (by omega))
theorem notW_len (M : Int) : (notW M).length ≤ 1 := by unfold notW; split <;> simp
theorem comp_look {w : World} (h : TP w) {M : Int} (h1 : 1 ≤ M) (h2 : M ≤ 6) : w.cell? ⟨0, M.toNat, none⟩ = some (.string (mkS (comp M))) := by
  rw [h.comp.cell]
  have hc : M = 1 ∨ M = 2 ∨ M = 3 ∨ M = 4 ∨ M = 5 ∨ M = 6 := by omega
  rcases hc with rfl | rfl | rfl | rfl | rfl | rfl <;> rfl
theorem agg_look {w : World} (h : TP w) {M : Int} (h1 : 1 ≤ M) (h2 : M ≤ 4) : w.cell? ⟨2, M.toNat, none⟩ = some (.string (mkS (aggw M))) := by
  rw [h.agg.cell]
  have hc : M = 1 ∨ M = 2 ∨ M = 3 ∨ M = 4 := by omega
  rcases hc with rfl | rfl | rfl | rfl <;> rfl
end Go.Proofs.YtmcbmmpjhijagaaGreatDoor
namespace Go.Proofs.YtmcbmmpjhijagaaGreatDoor
open Go Go.RowKit
set_option maxRecDepth 100000 in
set_option maxHeartbeats 4000000 in
theorem wr_2 {p B : Nat} {w : World}  : Wrs p B 14 (.iface 70 (.agg #[])) ([kNULL]) w := by
  intro W G ws hK hP hl
  simp at hl
  have HP := hide hP
  have HK := hide hK
  clear hP hK
  have m1 := miss1 (s := 70) (by decide)
  have m2 := hit2
  go_enter Tryz.func14, Tryz.ntmps14
  have HN0 : Hid (PN p B W (W.alloc (.cells #[] 70)) G G ws) := (PN.refl (unhide HP)).below (bA (Below.refl _ _) _)
  have HB0 : Hid (Bx (W.alloc (.cells #[] 70)) p W.heap.size G) := Bx.made (unhide HP) _ (Nat.le_refl _) (by simp)
  go_wp2_with fail
  refine Calls.mono (say_new (unhide HN0).pb [kNULL] _ _ _ _ _ (by simp) rfl rfl (by simp) (by first | omega | (simp; omega))) ?_
  rintro e w1 ⟨rfl, G1, hn⟩
  have HN1 := hide ((unhide HN0).trans hn)
  clear hn
  go_wp2
  go_end0
  have hz := unhide HN1
  exact ⟨rfl, _, by simpa only [List.append_assoc, List.nil_append, List.cons_append] using hz⟩
set_option maxRecDepth 100000 in
set_option maxHeartbeats 4000000 in
theorem wr_10 {p B : Nat} {w : World} {t : Nat} {v : Value} {x : List (List UInt8)} (h : Wrs p B 14 (.iface t v) x w) : Wrs p B 14 (.iface 95 (.agg #[.iface t v])) ([kEXISTS, kOpen] ++ x ++ [kShut]) w := by
  intro W G ws hK hP hl
  simp at hl
  have HP := hide hP
  have HK := hide hK
  have Hh := hide (bracketed_wrs h)
  clear hP hK h
  have m1 := miss1 (s := 95) (by decide)
  have m2 := miss2 (s := 95) (by decide)
  have m3 := miss3 (s := 95) (by decide)
  have m4 := miss4 (s := 95) (by decide)
  have m5 := miss5 (s := 95) (by decide)
  have m6 := miss6 (s := 95) (by decide)
  have m7 := miss7 (s := 95) (by decide)
  have m8 := miss8 (s := 95) (by decide)
  have m9 := miss9 (s := 95) (by decide)
  have m10 := hit10
  go_enter Tryz.func14, Tryz.ntmps14
  have HN0 : Hid (PN p B W (W.alloc (.cells #[.iface t v] 95)) G G ws) := (PN.refl (unhide HP)).below (bA (Below.refl _ _) _)
  have HB0 : Hid (Bx (W.alloc (.cells #[.iface t v] 95)) p W.heap.size G) := Bx.made (unhide HP) _ (Nat.le_refl _) (by simp)
  go_wp2_with fail
  refine Calls.mono (say_new (unhide HN0).pb [kEXISTS] _ _ _ _ _ (by simp) rfl rfl (by simp) (by first | omega | (simp; omega))) ?_
  rintro e w1 ⟨rfl, G1, hn⟩
  have HN1 := hide ((unhide HN0).trans hn)
  have HB1 := hide ((unhide HB0).step hn)
  have c0 : w1.cell? ⟨W.heap.size, 0, none⟩ = some (.iface t v) := ((unhide HB0).cell hn 0).trans (by simp [go_sem])
  clear hn
  go_wp2_with fail
  refine (unhide Hh _ G1 _ ((unhide HK).step (unhide HP) (unhide HN1)) (unhide HN1).pb (by first | omega | (simp; omega))).mono ?_
  rintro e w2 ⟨rfl, G2, hn⟩
  have HN2 := hide ((unhide HN1).trans hn)
  clear hn
  go_wp2
  go_end0
  have hz := unhide HN2
  exact ⟨rfl, _, by simpa only [List.append_assoc, List.nil_append, List.cons_append] using hz⟩
set_option maxRecDepth 100000 in
set_option maxHeartbeats 4000000 in
theorem wr_13 {p B : Nat} {w : World} {t : Nat} {v : Value} {x : List (List UInt8)} (h : Wrs p B 43 (.iface t v) x w) : Wrs p B 14 (.iface 102 (.agg #[.iface t v])) ([kNOT] ++ x) w := by
  intro W G ws hK hP hl
  simp at hl
  have HP := hide hP
  have HK := hide hK
  have Hh := hide (h)
  clear hP hK h
  have m1 := miss1 (s := 102) (by decide)
  have m2 := miss2 (s := 102) (by decide)
  have m3 := miss3 (s := 102) (by decide)
  have m4 := miss4 (s := 102) (by decide)
  have m5 := miss5 (s := 102) (by decide)
  have m6 := miss6 (s := 102) (by decide)
  have m7 := miss7 (s := 102) (by decide)
  have m8 := miss8 (s := 102) (by decide)
  have m9 := miss9 (s := 102) (by decide)
  have m10 := miss10 (s := 102) (by decide)
  have m11 := miss11 (s := 102) (by decide)
  have m12 := miss12 (s := 102) (by decide)
  have m13 := hit13
  go_enter Tryz.func14, Tryz.ntmps14
  have HN0 : Hid (PN p B W (W.alloc (.cells #[.iface t v] 102)) G G ws) := (PN.refl (unhide HP)).below (bA (Below.refl _ _) _)
  have HB0 : Hid (Bx (W.alloc (.cells #[.iface t v] 102)) p W.heap.size G) := Bx.made (unhide HP) _ (Nat.le_refl _) (by simp)
  go_wp2_with fail
  refine Calls.mono (say_new (unhide HN0).pb [kNOT] _ _ _ _ _ (by simp) rfl rfl (by simp) (by first | omega | (simp; omega))) ?_
  rintro e w1 ⟨rfl, G1, hn⟩
  have HN1 := hide ((unhide HN0).trans hn)
  have HB1 := hide ((unhide HB0).step hn)
  have c0 : w1.cell? ⟨W.heap.size, 0, none⟩ = some (.iface t v) := ((unhide HB0).cell hn 0).trans (by simp [go_sem])
  clear hn
  go_wp2_with fail
  refine (unhide Hh _ G1 _ ((unhide HK).step (unhide HP) (unhide HN1)) (unhide HN1).pb (by first | omega | (simp; omega))).mono ?_
  rintro e w2 ⟨rfl, G2, hn⟩
  have HN2 := hide ((unhide HN1).trans hn)
  clear hn
  go_wp2
  go_end0
  have hz := unhide HN2
  exact ⟨rfl, _, by simpa only [List.append_assoc, List.nil_append, List.cons_append] using hz⟩
end Go.Proofs.YtmcbmmpjhijagaaGreatDoor
namespace Go.Proofs.YtmcbmmpjhijagaaGreatDoor
open Go Go.RowKit
set_option maxRecDepth 100000 in
set_option maxHeartbeats 4000000 in
theorem wr_8 {p B : Nat} {w : World} (M : Int) (h1 : 1 ≤ M) (h2 : M ≤ 6) (hp : 8 ≤ p) (hpB : p < B) (hT : TP w) {t0 t1 : Nat} {v0 v1 : Value} {x0 x1 : List (List UInt8)} (k0 : Wrs p B 14 (.iface t0 v0) x0 w) (k1 : Wrs p B 14 (.iface t1 v1) x1 w) : Wrs p B 14 (.iface 89 (.agg #[.int .i64 M, .iface t0 v0, .iface t1 v1])) (x0 ++ [comp M] ++ x1) w := by
  intro W G ws hK hP hl
  simp at hl
  have HP := hide hP
  have HK := hide hK
  have Hk0 := hide (k0)
  have Hk1 := hide (k1)
  have HhT := hide (hT)
  clear hP hK k0 k1 hT
  have m1 := miss1 (s := 89) (by decide)
  have m2 := miss2 (s := 89) (by decide)
  have m3 := miss3 (s := 89) (by decide)
  have m4 := miss4 (s := 89) (by decide)
  have m5 := miss5 (s := 89) (by decide)
  have m6 := miss6 (s := 89) (by decide)
  have m7 := miss7 (s := 89) (by decide)
  have m8 := hit8
  go_enter Tryz.func14, Tryz.ntmps14
  have HN0 : Hid (PN p B W (W.alloc (.cells #[.int .i64 M, .iface t0 v0, .iface t1 v1] 89)) G G ws) := (PN.refl (unhide HP)).below (bA (Below.refl _ _) _)
  have HB0 : Hid (Bx (W.alloc (.cells #[.int .i64 M, .iface t0 v0, .iface t1 v1] 89)) p W.heap.size G) := Bx.made (unhide HP) _ (Nat.le_refl _) (by simp)
  go_wp2_with fail
  refine (unhide Hk0 _ G _ ((unhide HK).step (unhide HP) (unhide HN0)) (unhide HN0).pb (by first | omega | (simp; omega))).mono ?_
  rintro e w1 ⟨rfl, G1, hn⟩
  have HN1 := hide ((unhide HN0).trans hn)
  have HB1 := hide ((unhide HB0).step hn)
  have c0 : w1.cell? ⟨W.heap.size, 0, none⟩ = some (.int .i64 M) := ((unhide HB0).cell hn 0).trans (by simp [go_sem])
  have c1 : w1.cell? ⟨W.heap.size, 1, none⟩ = some (.iface t0 v0) := ((unhide HB0).cell hn 1).trans (by simp [go_sem])
  have c2 : w1.cell? ⟨W.heap.size, 2, none⟩ = some (.iface t1 v1) := ((unhide HB0).cell hn 2).trans (by simp [go_sem])
  clear hn
  have hcm : w1.cell? ⟨0, M.toNat, none⟩ = some (.string (mkS (comp M))) := comp_look ((unhide HhT).kp ((unhide HK).step (unhide HP) (unhide HN1)) hp hpB) h1 h2
  go_wp2_with fail
  refine Calls.mono (say_new (unhide HN1).pb [comp M] _ _ _ _ _ (by simp) rfl rfl (by simp) (by first | omega | (simp; omega))) ?_
  rintro e w2 ⟨rfl, G2, hn⟩
  have HN2 := hide ((unhide HN1).trans hn)
  have HB2 := hide ((unhide HB1).step hn)
  replace c0 := ((unhide HB1).cell hn 0).trans c0
  replace c1 := ((unhide HB1).cell hn 1).trans c1
  replace c2 := ((unhide HB1).cell hn 2).trans c2
  clear hn
  go_wp2_with fail
  refine (unhide Hk1 _ G2 _ ((unhide HK).step (unhide HP) (unhide HN2)) (unhide HN2).pb (by first | omega | (simp; omega))).mono ?_
  rintro e w3 ⟨rfl, G3, hn⟩
  have HN3 := hide ((unhide HN2).trans hn)
  clear hn
  go_wp2
  go_end0
  have hz := unhide HN3
  exact ⟨rfl, _, by simpa only [List.append_assoc, List.nil_append, List.cons_append] using hz⟩
set_option maxRecDepth 100000 in
set_option maxHeartbeats 4000000 in
theorem wr_9 {p B : Nat} {w : World} (M : Int) {t : Nat} {v : Value} {x : List (List UInt8)} (k0 : Wrs p B 14 (.iface t v) x w) : Wrs p B 14 (.iface 92 (.agg #[.bool (M == 1), .iface t v])) (x ++ [kIS] ++ notW M ++ [kNULL]) w := by
  intro W G ws hK hP hl
  simp at hl
  have HP := hide hP
  have HK := hide hK
  have Hk0 := hide (k0)
  have hnl := notW_len M
  obtain ⟨b, hb⟩ : ∃ b, (M == 1) = b := ⟨_, rfl⟩
  rw [hb]
  have HBB := hide hb
  clear hb
  clear hP hK k0
  have m1 := miss1 (s := 92) (by decide)
  have m2 := miss2 (s := 92) (by decide)
  have m3 := miss3 (s := 92) (by decide)
  have m4 := miss4 (s := 92) (by decide)
  have m5 := miss5 (s := 92) (by decide)
  have m6 := miss6 (s := 92) (by decide)
  have m7 := miss7 (s := 92) (by decide)
  have m8 := miss8 (s := 92) (by decide)
  have m9 := hit9
  go_enter Tryz.func14, Tryz.ntmps14
  have HN0 : Hid (PN p B W (W.alloc (.cells #[.bool b, .iface t v] 92)) G G ws) := (PN.refl (unhide HP)).below (bA (Below.refl _ _) _)
  have HB0 : Hid (Bx (W.alloc (.cells #[.bool b, .iface t v] 92)) p W.heap.size G) := Bx.made (unhide HP) _ (Nat.le_refl _) (by simp)
  go_wp2_with fail
  refine (unhide Hk0 _ G _ ((unhide HK).step (unhide HP) (unhide HN0)) (unhide HN0).pb (by first | omega | (simp; omega))).mono ?_
  rintro e w1 ⟨rfl, G1, hn⟩
  have HN1 := hide ((unhide HN0).trans hn)
  have HB1 := hide ((unhide HB0).step hn)
  have c0 : w1.cell? ⟨W.heap.size, 0, none⟩ = some (.bool b) := ((unhide HB0).cell hn 0).trans (by simp [go_sem])
  have c1 : w1.cell? ⟨W.heap.size, 1, none⟩ = some (.iface t v) := ((unhide HB0).cell hn 1).trans (by simp [go_sem])
  clear hn
  go_wp2_with fail
  refine Calls.mono (say_new (unhide HN1).pb [kIS] _ _ _ _ _ (by simp) rfl rfl (by simp) (by first | omega | (simp; omega))) ?_
  rintro e w2 ⟨rfl, G2, hn⟩
  have HN2 := hide ((unhide HN1).trans hn)
  have HB2 := hide ((unhide HB1).step hn)
  replace c0 := ((unhide HB1).cell hn 0).trans c0
  replace c1 := ((unhide HB1).cell hn 1).trans c1
  clear hn
  go_wp2_with fail
  refine (sayNot_calls (unhide HN2).pb M b (unhide HBB).symm (by first | omega | (simp; omega))).mono ?_
  rintro e w3 ⟨rfl, G3, hn⟩
  have HN3 := hide ((unhide HN2).trans hn)
  have HB3 := hide ((unhide HB2).step hn)
  replace c0 := ((unhide HB2).cell hn 0).trans c0
  replace c1 := ((unhide HB2).cell hn 1).trans c1
  clear hn
  go_wp2_with fail
  refine Calls.mono (say_new (unhide HN3).pb [kNULL] _ _ _ _ _ (by simp) rfl rfl (by simp) (by first | omega | (simp; omega))) ?_
  rintro e w4 ⟨rfl, G4, hn⟩
  have HN4 := hide ((unhide HN3).trans hn)
  clear hn
  go_wp2
  go_end0
  have hz := unhide HN4
  exact ⟨rfl, _, by simpa only [List.append_assoc, List.nil_append, List.cons_append] using hz⟩
set_option maxRecDepth 100000 in
set_option maxHeartbeats 4000000 in
theorem wr_11 {p B : Nat} {w : World} (M : Int) {t0 t1 : Nat} {v0 v1 : Value} {x0 x1 : List (List UInt8)} (k0 : Wrs p B 14 (.iface t0 v0) x0 w) (k1 : Wrs p B 14 (.iface t1 v1) x1 w) : Wrs p B 14 (.iface 97 (.agg #[.bool (M == 1), .iface t0 v0, .iface t1 v1])) (x0 ++ notW M ++ [kIN, kOpen] ++ x1 ++ [kShut]) w := by
  intro W G ws hK hP hl
  simp at hl
  have HP := hide hP
  have HK := hide hK
  have Hk0 := hide (k0)
  have Hk1 := hide (bracketed_wrs k1)
  have hnl := notW_len M
  obtain ⟨b, hb⟩ : ∃ b, (M == 1) = b := ⟨_, rfl⟩
  rw [hb]
  have HBB := hide hb
  clear hb
  clear hP hK k0 k1
  have m1 := miss1 (s := 97) (by decide)
  have m2 := miss2 (s := 97) (by decide)
  have m3 := miss3 (s := 97) (by decide)
  have m4 := miss4 (s := 97) (by decide)
  have m5 := miss5 (s := 97) (by decide)
  have m6 := miss6 (s := 97) (by decide)
  have m7 := miss7 (s := 97) (by decide)
  have m8 := miss8 (s := 97) (by decide)
  have m9 := miss9 (s := 97) (by decide)
  have m10 := miss10 (s := 97) (by decide)
  have m11 := hit11
  go_enter Tryz.func14, Tryz.ntmps14
  have HN0 : Hid (PN p B W (W.alloc (.cells #[.bool b, .iface t0 v0, .iface t1 v1] 97)) G G ws) := (PN.refl (unhide HP)).below (bA (Below.refl _ _) _)
  have HB0 : Hid (Bx (W.alloc (.cells #[.bool b, .iface t0 v0, .iface t1 v1] 97)) p W.heap.size G) := Bx.made (unhide HP) _ (Nat.le_refl _) (by simp)
  go_wp2_with fail
  refine (unhide Hk0 _ G _ ((unhide HK).step (unhide HP) (unhide HN0)) (unhide HN0).pb (by first | omega | (simp; omega))).mono ?_
  rintro e w1 ⟨rfl, G1, hn⟩
  have HN1 := hide ((unhide HN0).trans hn)
  have HB1 := hide ((unhide HB0).step hn)
  have c0 : w1.cell? ⟨W.heap.size, 0, none⟩ = some (.bool b) := ((unhide HB0).cell hn 0).trans (by simp [go_sem])
  have c1 : w1.cell? ⟨W.heap.size, 1, none⟩ = some (.iface t0 v0) := ((unhide HB0).cell hn 1).trans (by simp [go_sem])
  have c2 : w1.cell? ⟨W.heap.size, 2, none⟩ = some (.iface t1 v1) := ((unhide HB0).cell hn 2).trans (by simp [go_sem])
  clear hn
  go_wp2_with fail
  refine (sayNot_calls (unhide HN1).pb M b (unhide HBB).symm (by first | omega | (simp; omega))).mono ?_
  rintro e w2 ⟨rfl, G2, hn⟩
  have HN2 := hide ((unhide HN1).trans hn)
  have HB2 := hide ((unhide HB1).step hn)
  replace c0 := ((unhide HB1).cell hn 0).trans c0
  replace c1 := ((unhide HB1).cell hn 1).trans c1
  replace c2 := ((unhide HB1).cell hn 2).trans c2
  clear hn
  go_wp2_with fail
  refine Calls.mono (say_new (unhide HN2).pb [kIN] _ _ _ _ _ (by simp) rfl rfl (by simp) (by first | omega | (simp; omega))) ?_
  rintro e w3 ⟨rfl, G3, hn⟩
  have HN3 := hide ((unhide HN2).trans hn)
  have HB3 := hide ((unhide HB2).step hn)
  replace c0 := ((unhide HB2).cell hn 0).trans c0
  replace c1 := ((unhide HB2).cell hn 1).trans c1
  replace c2 := ((unhide HB2).cell hn 2).trans c2
  clear hn
  go_wp2_with fail
  refine (unhide Hk1 _ G3 _ ((unhide HK).step (unhide HP) (unhide HN3)) (unhide HN3).pb (by first | omega | (simp; omega))).mono ?_
  rintro e w4 ⟨rfl, G4, hn⟩
  have HN4 := hide ((unhide HN3).trans hn)
  clear hn
  go_wp2
  go_end0
  have hz := unhide HN4
  exact ⟨rfl, _, by simpa only [List.append_assoc, List.nil_append, List.cons_append] using hz⟩
end Go.Proofs.YtmcbmmpjhijagaaGreatDoor
