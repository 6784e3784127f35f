import Derived.Test.YtmcbmmpjhijagaaGreatDoorQ11
namespace Go.Proofs.YtmcbmmpjhijagaaGreatDoor
open Go Go.RowKit
structure TP (w : World) : Prop where
  comp : TabAt w 0 ([[], comp 1, comp 2, comp 3, comp 4, comp 5, comp 6].map fun x => .string (mkS x))
  agg : TabAt w 2 ([[], aggw 1, aggw 2, aggw 3, aggw 4].map fun x => .string (mkS x))
  pow : Lib.TabIs Tryz.prog w "internal/strconv.uint64pow10" .u64 Lib.pow10Tab
theorem TP.kp {p B : Nat} {w W : World} (h : TP w) (hK : Kp p B w W) (hp : 8 ≤ p) (hpB : p < B) : TP W := by
  have hsz : B ≤ W.heap.size := Nat.le_trans hK.sz hK.size
  refine ⟨⟨by omega, fun i => ?_⟩, ⟨by omega, fun i => ?_⟩, ?_⟩
  · rw [hK.cell 0 i (by omega) (by omega)]; exact h.comp.cell i
  · rw [hK.cell 2 i (by omega) (by omega)]; exact h.agg.cell i
  · have hg : Tryz.prog.globalNamed "internal/strconv.uint64pow10" = some 3 := by kernel_rfl
    have h1 := h.pow
    unfold Lib.TabIs World.var? at h1 ⊢
    rw [hg] at h1 ⊢
    simp only [Option.bind_some] at h1 ⊢
    rw [hK.block 3 (by omega) (by omega)]
    exact h1
theorem below_drewN (w : World) (k : Nat) : Below w.heap.size w (w.drewN k) := ⟨rfl, rfl, rfl, Nat.le_refl _, fun _ _ => rfl⟩
theorem below_growN (w : World) (os : Array Obj) : Below w.heap.size w (Go.Sort.grow w os) := ⟨rfl, rfl, rfl, by simp [Go.Sort.grow], fun k hk => by simp [Go.Sort.grow, Array.getElem?_append_left hk]⟩
theorem fmt_calls (n : Int) (h0 : -9223372036854775808 ≤ n) (h1 : n ≤ 9223372036854775807) (w : World) (hT : TP w) : Calls Tryz.prog 35 #[.int .i64 n, .int .i64 10] w fun e w' => e = .returned (.string (mkS (Lib.itoa n))) ∧ Below w.heap.size w w' :=
  (sh_strconv_FormatInt_10 n h0 h1 w hT.pow).mono fun e w' ⟨he, k, os, hw⟩ => ⟨he, by subst hw; exact (below_drewN w k).trans (below_growN (w.drewN k) os)⟩
end Go.Proofs.YtmcbmmpjhijagaaGreatDoor
namespace Go.Proofs.YtmcbmmpjhijagaaGreatDoor
open Go Go.RowKit
theorem iL_take_le (sep : List (List UInt8)) : ∀ (xss : List (List (List UInt8))) (k : Nat), (iL sep (xss.take k)).length ≤ (iL sep xss).length
  | [], k => by simp [iL]
  | [x], k => by cases k <;> simp [iL]
  | x :: y :: r, 0 => by simp [iL]
  | x :: y :: r, 1 => by simp [iL]
  | x :: y :: r, k + 2 => by
    have := iL_take_le sep (y :: r) (k + 1)
    simp only [List.take_succ_cons] at this
    simp [iL] at this ⊢
    omega
set_option maxRecDepth 100000 in
set_option maxHeartbeats 4000000 in
theorem list_write {p B g o c : Nat} {w : World} (us : List Value) (xss : List (List (List UInt8))) (hlen : us.length = xss.length) (hcells : ∀ (j : Nat) u, us[j]? = some u → w.cell? ⟨g, o + j, none⟩ = some u) (hg : g < B) (hgp : g ≠ p)
    (hw : ∀ (j : Nat) u xs, us[j]? = some u → xss[j]? = some xs → Wrs p B 14 u xs w) (W : World) (G : Option Nat) (ws sep : List (List UInt8)) (bv : Value) (hK : Kp p B w W) (hP : PB W p B G ws) (hl : ws.length + (iL sep xss).length ≤ 100000000) (hn : us.length ≤ 1000000)
    (hs : us.length ≤ 1 ∨ ∃ gb cb, bv = .slice (some ⟨gb, 0, none⟩) sep.length cb ∧ 0 < sep.length ∧ Bx W p gb G ∧ ∀ (j : Nat) u, (strs sep)[j]? = some u → W.cell? ⟨gb, 0 + j, none⟩ = some u) :
    Calls Tryz.prog 39 #[.pointer (some ⟨p, 0, none⟩), .slice (some ⟨g, o, none⟩) us.length c, .func (.func 14) #[.pointer (some ⟨p, 0, none⟩)] #[], bv] W fun e w' => e = .returned (.tuple #[]) ∧ ∃ Gn, PN p B W w' G Gn (ws ++ iL sep xss) := by
  have HP := hide hP
  have HK := hide hK
  have HW := hide hw
  have HC := hide hcells
  have HS := hide hs
  have HL := hide hlen
  have hBW : B ≤ W.heap.size := hP.sz
  clear hw hP hK hcells hs hlen
  go_enter Tryz.func39, Tryz.ntmps39
  go_wp2
  go_loopw [8, 9, 12] (fun _ _ i wr => ∃ (k : Nat) (G1 : Option Nat), k ≤ us.length ∧ i = .int .i64 k ∧ PN p B W wr G G1 (ws ++ iL sep (xss.take k))) (fun _ _ i _ => us.length - (intOf i).toNat)
  case atStart => exact ⟨0, G, Nat.zero_le _, rfl, by simpa [iL] using PN.refl (unhide HP)⟩
  case round =>
    obtain ⟨k, G1, hk, rfl, hN⟩ := hrel
    have HN := hide hN
    clear hN
    by_cases h1 : (k : Int) < (us.length : Int)
    · have hk' : k < us.length := by omega
      obtain ⟨u, hu⟩ : ∃ u, us[k]? = some u := ⟨us[k], List.getElem?_eq_getElem hk'⟩
      obtain ⟨xs, hx⟩ : ∃ xs, xss[k]? = some xs := ⟨xss[k]'(by have := unhide HL; omega), List.getElem?_eq_getElem (by have := unhide HL; omega)⟩
      have HWk := hide (unhide HW k u xs hu hx)
      have HKr := hide ((unhide HK).step (unhide HP) (unhide HN))
      have hc : wr.cell? ⟨g, o + k, none⟩ = some u := ((unhide HKr).cell g (o + k) hg hgp).trans (unhide HC k u hu)
      have hlt : g < wr.heap.size := Nat.lt_of_lt_of_le hg (Nat.le_trans (unhide HKr).sz (unhide HKr).size)
      have htk : xss.take (k + 1) = xss.take k ++ [xs] := by rw [List.take_add_one, hx]; rfl
      have hle : (iL sep (xss.take (k + 1))).length ≤ (iL sep xss).length := iL_take_le sep xss (k + 1)
      have HTK := hide htk
      have HLE := hide hle
      clear htk hle hu hx
      by_cases h0 : k = 0
      · subst h0
        rw [Nat.add_zero] at hc
        go_wp2_with fail
        refine (unhide HWk wr G1 _ (unhide HKr) (unhide HN).pb ?_).mono ?_
        · have := unhide HLE
          rw [unhide HTK] at this
          simp [iL] at this ⊢
          omega
        rintro e w2 ⟨rfl, G2, hn2⟩
        have HN2 : Hid (PN p B W w2 G G2 (ws ++ iL sep (xss.take (0 + 1)))) := by
          show PN _ _ _ _ _ _ _
          have := (unhide HN).trans hn2
          rw [unhide HTK]
          simpa [iL] using this
        clear hn2
        go_wp2
        go_roundw
        case rel => exact ⟨0 + 1, G2, by omega, by go_num, HN2.out⟩
        case measure => simp [intOf]; omega
      · obtain ⟨gb, cb, rfl, hsl, hbx, hsc⟩ := (unhide HS).resolve_left (by omega)
        have hbr := hbx.step (unhide HN)
        have HSC := hide (fun (j : Nat) u hj => (hbx.cell (unhide HN) (0 + j)).trans (hsc j u hj))
        clear hsc hbx
        have hk0 : 0 < (k : Int) := by omega
        have HNE : Hid (xss.take k ≠ []) := fun e => by
          have h3 := congrArg List.length e
          rw [List.length_take, List.length_nil] at h3
          have := unhide HL
          omega
        go_wp2_with fail
        refine (say_calls p B gb 0 cb G1 _ sep wr (unhide HN).pb (unhide HSC) hsl ?_).mono ?_
        · have := unhide HLE
          rw [unhide HTK, iL_snoc _ _ _ (unhide HNE)] at this
          simp at this ⊢
          omega
        rintro e w1 ⟨rfl, G2, hn1⟩
        have HN1 := hide ((unhide HN).trans hn1)
        clear hn1
        have HK1 := hide ((unhide HK).step (unhide HP) (unhide HN1))
        go_wp2_with fail
        refine (unhide HWk w1 G2 _ (unhide HK1) (unhide HN1).pb ?_).mono ?_
        · have := unhide HLE
          rw [unhide HTK, iL_snoc _ _ _ (unhide HNE)] at this
          simp at this ⊢
          omega
        rintro e w2 ⟨rfl, G3, hn2⟩
        have HN2 : Hid (PN p B W w2 G G3 (ws ++ iL sep (xss.take (k + 1)))) := by
          show PN _ _ _ _ _ _ _
          have := (unhide HN1).trans hn2
          rw [unhide HTK, iL_snoc _ _ _ (unhide HNE)]
          simpa [List.append_assoc] using this
        clear hn2
        go_wp2
        go_roundw
        case rel => exact ⟨k + 1, G3, by omega, by go_num, HN2.out⟩
        case measure => simp [intOf]; omega
    · obtain rfl : k = us.length := by omega
      go_wp2
      go_end0
      have := unhide HN
      rw [List.take_of_length_le (by have := unhide HL; omega)] at this
      exact ⟨rfl, G1, this⟩
set_option maxRecDepth 100000 in
set_option maxHeartbeats 4000000 in
theorem list_writePrim {p B g o c : Nat} {w : World} (us : List Value) (xss : List (List (List UInt8))) (hlen : us.length = xss.length) (hcells : ∀ (j : Nat) u, us[j]? = some u → w.cell? ⟨g, o + j, none⟩ = some u) (hg : g < B) (hgp : g ≠ p)
    (hw : ∀ (j : Nat) u xs, us[j]? = some u → xss[j]? = some xs → Wrs p B 43 u xs w) (W : World) (G : Option Nat) (ws sep : List (List UInt8)) (bv : Value) (hK : Kp p B w W) (hP : PB W p B G ws) (hl : ws.length + (iL sep xss).length ≤ 100000000) (hn : us.length ≤ 1000000)
    (hs : us.length ≤ 1 ∨ ∃ gb cb, bv = .slice (some ⟨gb, 0, none⟩) sep.length cb ∧ 0 < sep.length ∧ Bx W p gb G ∧ ∀ (j : Nat) u, (strs sep)[j]? = some u → W.cell? ⟨gb, 0 + j, none⟩ = some u) :
    Calls Tryz.prog 39 #[.pointer (some ⟨p, 0, none⟩), .slice (some ⟨g, o, none⟩) us.length c, .func (.func 43) #[.pointer (some ⟨p, 0, none⟩)] #[], bv] W fun e w' => e = .returned (.tuple #[]) ∧ ∃ Gn, PN p B W w' G Gn (ws ++ iL sep xss) := by
  have HP := hide hP
  have HK := hide hK
  have HW := hide hw
  have HC := hide hcells
  have HS := hide hs
  have HL := hide hlen
  have hBW : B ≤ W.heap.size := hP.sz
  clear hw hP hK hcells hs hlen
  go_enter Tryz.func39, Tryz.ntmps39
  go_wp2
  go_loopw [8, 9, 12] (fun _ _ i wr => ∃ (k : Nat) (G1 : Option Nat), k ≤ us.length ∧ i = .int .i64 k ∧ PN p B W wr G G1 (ws ++ iL sep (xss.take k))) (fun _ _ i _ => us.length - (intOf i).toNat)
  case atStart => exact ⟨0, G, Nat.zero_le _, rfl, by simpa [iL] using PN.refl (unhide HP)⟩
  case round =>
    obtain ⟨k, G1, hk, rfl, hN⟩ := hrel
    have HN := hide hN
    clear hN
    by_cases h1 : (k : Int) < (us.length : Int)
    · have hk' : k < us.length := by omega
      obtain ⟨u, hu⟩ : ∃ u, us[k]? = some u := ⟨us[k], List.getElem?_eq_getElem hk'⟩
      obtain ⟨xs, hx⟩ : ∃ xs, xss[k]? = some xs := ⟨xss[k]'(by have := unhide HL; omega), List.getElem?_eq_getElem (by have := unhide HL; omega)⟩
      have HWk := hide (unhide HW k u xs hu hx)
      have HKr := hide ((unhide HK).step (unhide HP) (unhide HN))
      have hc : wr.cell? ⟨g, o + k, none⟩ = some u := ((unhide HKr).cell g (o + k) hg hgp).trans (unhide HC k u hu)
      have hlt : g < wr.heap.size := Nat.lt_of_lt_of_le hg (Nat.le_trans (unhide HKr).sz (unhide HKr).size)
      have htk : xss.take (k + 1) = xss.take k ++ [xs] := by rw [List.take_add_one, hx]; rfl
      have hle : (iL sep (xss.take (k + 1))).length ≤ (iL sep xss).length := iL_take_le sep xss (k + 1)
      have HTK := hide htk
      have HLE := hide hle
      clear htk hle hu hx
      by_cases h0 : k = 0
      · subst h0
        rw [Nat.add_zero] at hc
        go_wp2_with fail
        refine (unhide HWk wr G1 _ (unhide HKr) (unhide HN).pb ?_).mono ?_
        · have := unhide HLE
          rw [unhide HTK] at this
          simp [iL] at this ⊢
          omega
        rintro e w2 ⟨rfl, G2, hn2⟩
        have HN2 : Hid (PN p B W w2 G G2 (ws ++ iL sep (xss.take (0 + 1)))) := by
          show PN _ _ _ _ _ _ _
          have := (unhide HN).trans hn2
          rw [unhide HTK]
          simpa [iL] using this
        clear hn2
        go_wp2
        go_roundw
        case rel => exact ⟨0 + 1, G2, by omega, by go_num, HN2.out⟩
        case measure => simp [intOf]; omega
      · obtain ⟨gb, cb, rfl, hsl, hbx, hsc⟩ := (unhide HS).resolve_left (by omega)
        have hbr := hbx.step (unhide HN)
        have HSC := hide (fun (j : Nat) u hj => (hbx.cell (unhide HN) (0 + j)).trans (hsc j u hj))
        clear hsc hbx
        have hk0 : 0 < (k : Int) := by omega
        have HNE : Hid (xss.take k ≠ []) := fun e => by
          have h3 := congrArg List.length e
          rw [List.length_take, List.length_nil] at h3
          have := unhide HL
          omega
        go_wp2_with fail
        refine (say_calls p B gb 0 cb G1 _ sep wr (unhide HN).pb (unhide HSC) hsl ?_).mono ?_
        · have := unhide HLE
          rw [unhide HTK, iL_snoc _ _ _ (unhide HNE)] at this
          simp at this ⊢
          omega
        rintro e w1 ⟨rfl, G2, hn1⟩
        have HN1 := hide ((unhide HN).trans hn1)
        clear hn1
        have HK1 := hide ((unhide HK).step (unhide HP) (unhide HN1))
        go_wp2_with fail
        refine (unhide HWk w1 G2 _ (unhide HK1) (unhide HN1).pb ?_).mono ?_
        · have := unhide HLE
          rw [unhide HTK, iL_snoc _ _ _ (unhide HNE)] at this
          simp at this ⊢
          omega
        rintro e w2 ⟨rfl, G3, hn2⟩
        have HN2 : Hid (PN p B W w2 G G3 (ws ++ iL sep (xss.take (k + 1)))) := by
          show PN _ _ _ _ _ _ _
          have := (unhide HN1).trans hn2
          rw [unhide HTK, iL_snoc _ _ _ (unhide HNE)]
          simpa [List.append_assoc] using this
        clear hn2
        go_wp2
        go_roundw
        case rel => exact ⟨k + 1, G3, by omega, by go_num, HN2.out⟩
        case measure => simp [intOf]; omega
    · obtain rfl : k = us.length := by omega
      go_wp2
      go_end0
      have := unhide HN
      rw [List.take_of_length_le (by have := unhide HL; omega)] at this
      exact ⟨rfl, G1, this⟩
set_option maxRecDepth 100000 in
set_option maxHeartbeats 4000000 in
theorem list_writeConj {p B g o c : Nat} {w : World} (us : List Value) (xss : List (List (List UInt8))) (hlen : us.length = xss.length) (hcells : ∀ (j : Nat) u, us[j]? = some u → w.cell? ⟨g, o + j, none⟩ = some u) (hg : g < B) (hgp : g ≠ p)
    (hw : ∀ (j : Nat) u xs, us[j]? = some u → xss[j]? = some xs → Wrs p B 44 u xs w) (W : World) (G : Option Nat) (ws sep : List (List UInt8)) (bv : Value) (hK : Kp p B w W) (hP : PB W p B G ws) (hl : ws.length + (iL sep xss).length ≤ 100000000) (hn : us.length ≤ 1000000)
    (hs : us.length ≤ 1 ∨ ∃ gb cb, bv = .slice (some ⟨gb, 0, none⟩) sep.length cb ∧ 0 < sep.length ∧ Bx W p gb G ∧ ∀ (j : Nat) u, (strs sep)[j]? = some u → W.cell? ⟨gb, 0 + j, none⟩ = some u) :
    Calls Tryz.prog 39 #[.pointer (some ⟨p, 0, none⟩), .slice (some ⟨g, o, none⟩) us.length c, .func (.func 44) #[.pointer (some ⟨p, 0, none⟩)] #[], bv] W fun e w' => e = .returned (.tuple #[]) ∧ ∃ Gn, PN p B W w' G Gn (ws ++ iL sep xss) := by
  have HP := hide hP
  have HK := hide hK
  have HW := hide hw
  have HC := hide hcells
  have HS := hide hs
  have HL := hide hlen
  have hBW : B ≤ W.heap.size := hP.sz
  clear hw hP hK hcells hs hlen
  go_enter Tryz.func39, Tryz.ntmps39
  go_wp2
  go_loopw [8, 9, 12] (fun _ _ i wr => ∃ (k : Nat) (G1 : Option Nat), k ≤ us.length ∧ i = .int .i64 k ∧ PN p B W wr G G1 (ws ++ iL sep (xss.take k))) (fun _ _ i _ => us.length - (intOf i).toNat)
  case atStart => exact ⟨0, G, Nat.zero_le _, rfl, by simpa [iL] using PN.refl (unhide HP)⟩
  case round =>
    obtain ⟨k, G1, hk, rfl, hN⟩ := hrel
    have HN := hide hN
    clear hN
    by_cases h1 : (k : Int) < (us.length : Int)
    · have hk' : k < us.length := by omega
      obtain ⟨u, hu⟩ : ∃ u, us[k]? = some u := ⟨us[k], List.getElem?_eq_getElem hk'⟩
      obtain ⟨xs, hx⟩ : ∃ xs, xss[k]? = some xs := ⟨xss[k]'(by have := unhide HL; omega), List.getElem?_eq_getElem (by have := unhide HL; omega)⟩
      have HWk := hide (unhide HW k u xs hu hx)
      have HKr := hide ((unhide HK).step (unhide HP) (unhide HN))
      have hc : wr.cell? ⟨g, o + k, none⟩ = some u := ((unhide HKr).cell g (o + k) hg hgp).trans (unhide HC k u hu)
      have hlt : g < wr.heap.size := Nat.lt_of_lt_of_le hg (Nat.le_trans (unhide HKr).sz (unhide HKr).size)
      have htk : xss.take (k + 1) = xss.take k ++ [xs] := by rw [List.take_add_one, hx]; rfl
      have hle : (iL sep (xss.take (k + 1))).length ≤ (iL sep xss).length := iL_take_le sep xss (k + 1)
      have HTK := hide htk
      have HLE := hide hle
      clear htk hle hu hx
      by_cases h0 : k = 0
      · subst h0
        rw [Nat.add_zero] at hc
        go_wp2_with fail
        refine (unhide HWk wr G1 _ (unhide HKr) (unhide HN).pb ?_).mono ?_
        · have := unhide HLE
          rw [unhide HTK] at this
          simp [iL] at this ⊢
          omega
        rintro e w2 ⟨rfl, G2, hn2⟩
        have HN2 : Hid (PN p B W w2 G G2 (ws ++ iL sep (xss.take (0 + 1)))) := by
          show PN _ _ _ _ _ _ _
          have := (unhide HN).trans hn2
          rw [unhide HTK]
          simpa [iL] using this
        clear hn2
        go_wp2
        go_roundw
        case rel => exact ⟨0 + 1, G2, by omega, by go_num, HN2.out⟩
        case measure => simp [intOf]; omega
      · obtain ⟨gb, cb, rfl, hsl, hbx, hsc⟩ := (unhide HS).resolve_left (by omega)
        have hbr := hbx.step (unhide HN)
        have HSC := hide (fun (j : Nat) u hj => (hbx.cell (unhide HN) (0 + j)).trans (hsc j u hj))
        clear hsc hbx
        have hk0 : 0 < (k : Int) := by omega
        have HNE : Hid (xss.take k ≠ []) := fun e => by
          have h3 := congrArg List.length e
          rw [List.length_take, List.length_nil] at h3
          have := unhide HL
          omega
        go_wp2_with fail
        refine (say_calls p B gb 0 cb G1 _ sep wr (unhide HN).pb (unhide HSC) hsl ?_).mono ?_
        · have := unhide HLE
          rw [unhide HTK, iL_snoc _ _ _ (unhide HNE)] at this
          simp at this ⊢
          omega
        rintro e w1 ⟨rfl, G2, hn1⟩
        have HN1 := hide ((unhide HN).trans hn1)
        clear hn1
        have HK1 := hide ((unhide HK).step (unhide HP) (unhide HN1))
        go_wp2_with fail
        refine (unhide HWk w1 G2 _ (unhide HK1) (unhide HN1).pb ?_).mono ?_
        · have := unhide HLE
          rw [unhide HTK, iL_snoc _ _ _ (unhide HNE)] at this
          simp at this ⊢
          omega
        rintro e w2 ⟨rfl, G3, hn2⟩
        have HN2 : Hid (PN p B W w2 G G3 (ws ++ iL sep (xss.take (k + 1)))) := by
          show PN _ _ _ _ _ _ _
          have := (unhide HN1).trans hn2
          rw [unhide HTK, iL_snoc _ _ _ (unhide HNE)]
          simpa [List.append_assoc] using this
        clear hn2
        go_wp2
        go_roundw
        case rel => exact ⟨k + 1, G3, by omega, by go_num, HN2.out⟩
        case measure => simp [intOf]; omega
    · obtain rfl : k = us.length := by omega
      go_wp2
      go_end0
      have := unhide HN
      rw [List.take_of_length_le (by have := unhide HL; omega)] at this
      exact ⟨rfl, G1, this⟩
end Go.Proofs.YtmcbmmpjhijagaaGreatDoor
