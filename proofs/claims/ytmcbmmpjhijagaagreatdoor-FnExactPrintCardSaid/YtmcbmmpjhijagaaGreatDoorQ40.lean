import Derived.Test.YtmcbmmpjhijagaaGreatDoorQ32
import Derived.Test.YtmcbmmpjhijagaaGreatDoorQ2
import Derived.Test.YtmcbmmpjhijagaaGreatDoorImplAst
import Derived.Test.YtmcbmmpjhijagaaGreatDoorQ6
namespace Go.Proofs.YtmcbmmpjhijagaaGreatDoor
open Go Go.RowKit
theorem TP.of {w W : World} (h : TP w) (h8 : 8 ≤ w.heap.size) (hb : Below w.heap.size w W) : TP W := by
  refine ⟨h.comp.of hb, h.agg.of hb, ?_⟩
  have hg : Tryz.prog.globalNamed "internal/strconv.uint64pow10" = some 3 := by kernel_rfl
  have h1 := h.pow
  unfold Lib.TabIs World.var? at h1 ⊢
  rw [hg] at h1 ⊢
  simp only [Option.bind_some] at h1 ⊢
  rw [hb.block 3 (by omega)]
  exact h1
def txt (ns : List Nd) : List UInt8 := Lib.join (wds ns (ns.length - 1)) [32]
set_option maxRecDepth 100000 in
set_option maxHeartbeats 4000000 in
theorem Print_no (ns : List Nd) (hI : ¬ IV ns) (g cap : Nat) (w : World) (hg : g < w.heap.size) (hn : NodesAt w g 0 ns) (hb0 : ns.length ≤ 1048576) (hsm : Small ns) (hTK : TKw w) (hTR : TRules w) :
    Calls Tryz.prog 7 #[.agg #[.slice (some ⟨g, 0, none⟩) ns.length cap]] w fun e w' => e = .returned (.string (mkS [])) ∧ Below w.heap.size w w' := by
  have HA := hide (fun W (hb : Below w.heap.size w W) => AstOk_calls ns g cap W (Nat.lt_of_lt_of_le hg hb.size) (hn.of hg hb) hb0 hsm (hTK.of hb) (hTR.of hb))
  rw [dB_false hI] at HA
  clear hn hsm hTK hTR hI
  go_enter Tryz.func7, Tryz.ntmps7
  go_wp2_with fail
  refine (unhide HA _ (bA (Below.refl _ _) _)).mono ?_
  rintro e w1 ⟨rfl, hb1⟩
  have HB := hide (bT (bA (Below.refl w.heap.size w) _) hb1)
  clear hb1
  go_wp2
  go_returns
  exact ⟨rfl, unhide HB⟩
set_option maxRecDepth 100000 in
set_option maxHeartbeats 4000000 in
theorem Print_yes (ns : List Nd) (hI : IV ns) (g cap : Nat) (w : World) (hg : g < w.heap.size) (hn : NodesAt w g 0 ns) (hb0 : ns.length ≤ 1048576) (hsm : Small ns) (hTK : TKw w) (hTR : TRules w) (hTP : TP w) (h8 : 8 ≤ w.heap.size) :
    Calls Tryz.prog 7 #[.agg #[.slice (some ⟨g, 0, none⟩) ns.length cap]] w fun e w' => e = .returned (.string (mkS (txt ns))) ∧ Below w.heap.size w w' := by
  have HA := hide (fun W (hb : Below w.heap.size w W) => AstOk_calls ns g cap W (Nat.lt_of_lt_of_le hg hb.size) (hn.of hg hb) hb0 hsm (hTK.of hb) (hTR.of hb))
  rw [dB_true hI] at HA
  have HR := hide (fun W (hb : Below w.heap.size w W) => raise_calls ns (fun i n h => (hI.fit i n h).1.1) hI.fit hI.fore hI.kids hI.lo hI.hi g cap W (Nat.lt_of_lt_of_le hg hb.size) (hn.of hg hb))
  have HO : Hid (PrOk ns) := ⟨hI.fit, fun i n h => by have := (hI.kids i n h).1; omega⟩
  have HTP := hide (fun W (hb : Below w.heap.size w W) => hTP.of h8 hb)
  have HWL := hide hI.wl
  have hlo := hI.lo
  have HNE := hide (wds_ne hI.fore hI.fit (i := ns.length - 1) (by omega))
  clear hn hsm hTK hTR hTP hI
  obtain ⟨ws, hws⟩ : ∃ ws, wds ns (ns.length - 1) = ws := ⟨_, rfl⟩
  unfold txt
  rw [hws] at HWL HNE ⊢
  have HWS := hide hws
  clear hws
  go_enter Tryz.func7, Tryz.ntmps7
  go_wp2_with fail
  refine (unhide HA _ (bA (Below.refl _ _) _)).mono ?_
  rintro e w1 ⟨rfl, hb1⟩
  have HB1 := hide (bT (bA (Below.refl w.heap.size w) _) hb1)
  have ba1 : w1.cell? ⟨w.heap.size, 0, none⟩ = some (.slice (some ⟨g, 0, none⟩) ns.length cap) := (hb1.cell (p := ⟨w.heap.size, 0, none⟩) (by simp)).trans (by simp [go_sem])
  have s1 : w.heap.size < w1.heap.size := by have := hb1.size; simp at this; omega
  clear hb1
  go_wp2_with fail
  refine (unhide HR _ (bA (unhide HB1) _)).mono ?_
  rintro e w3 ⟨⟨v, rfl, hv⟩, hb3⟩
  have hs3 : w1.heap.size < w3.heap.size := by have := hb3.size; simp at this; omega
  have hp8 : 8 ≤ w1.heap.size := by omega
  have HB3 := hide (bT (bA (unhide HB1) _) hb3)
  have hc3 : w3.cell? ⟨w1.heap.size, 0, none⟩ = some (.slice none 0 0) := ((bcell hb3).1 w1.heap.size 0 (by simp)).trans (by simp [go_sem])
  have hf3 : w3.frozen? ⟨w1.heap.size, 0, none⟩ = false := ((bcell hb3).2 w1.heap.size 0 (by simp)).trans (by simp [go_sem])
  have hPB : PB w3 w1.heap.size w3.heap.size none [] := ⟨hs3, Nat.le_refl _, hf3, _, hc3, ⟨rfl, Or.inl ⟨rfl, rfl⟩⟩, rfl⟩
  have hTr : TrV ns w3 (fun b => b < w3.heap.size ∧ b ≠ w1.heap.size) ns.length (ns.length - 1) v := TrV.mono (fun b h1 h2 => ⟨⟨h2, by simp at h1; omega⟩, h2, rfl⟩) _ _ _ hv
  obtain ⟨t, x, rfl, _, hW⟩ := write_all (unhide HO) hp8 hs3 (unhide HTP _ (unhide HB3)) _ _ _ hTr
  have ewd : wd ns ns.length (ns.length - 1) = wds ns (ns.length - 1) := by unfold wds; rw [show ns.length - 1 + 1 = ns.length by omega]
  rw [ewd, unhide HWS] at hW
  have HW := hide (hW w3 none [] (Kp.refl (Nat.le_refl _)) hPB (by have := wl_len ws; have := unhide HWL; simp; omega))
  clear hv hb3 hTr hW hPB ewd HA HR HO HTP hc3 hf3
  go_wp2_with fail
  refine (unhide HW).mono ?_
  rintro e w4 ⟨rfl, Gn, hPN⟩
  obtain ⟨vv, hc4, ho4, _⟩ := hPN.pb.box
  rw [List.nil_append] at ho4
  have hpos : 0 < ws.length := List.length_pos_iff.2 (unhide HNE)
  obtain ⟨gg, cc, rfl, hgB, hgs⟩ := ho4.form hpos
  have hcap : ws.length ≤ cc := by
    rcases ho4.2 with ⟨h, _⟩ | ⟨g', c', cur, h, _, _, h4, _⟩
    · cases h
    · simp only [Value.slice.injEq, Option.some.injEq, Addr.mk.injEq, and_true, true_and] at h
      omega
  have HB4 : Hid (Below w.heap.size w w4) := (unhide HB3).trans (hPN.but.below (unhide HB3).size (fun b hb => hb.elim (fun e => by omega) (fun e => by cases e)))
  have HJ := hide (sh_strings_Join gg 0 cc (ws.map mkS) ⟨#[32]⟩ w4 (fun j x hj => by
      rw [Nat.zero_add, ho4.cellAt j (by have := (List.getElem?_eq_some_iff.1 hj).1; simp at this; omega)]
      unfold strs
      rw [List.getElem?_map] at hj ⊢
      cases e : ws[j]? with
      | none => rw [e] at hj; cases hj
      | some y => rw [e] at hj; simp at hj; subst hj; rfl) hgs (by have := wl_len ws; have := unhide HWL; simp; omega) (by simpa using hcap) (by
      have := join_le ws; have := unhide HWL
      have e : (ws.map mkS).map (·.data.toList) = ws := by rw [List.map_map]; exact List.map_id'' (fun x => by simp [mkS]) ws
      rw [e]
      simp
      omega))
  have ej : (ws.map mkS).map (·.data.toList) = ws := by rw [List.map_map]; exact List.map_id'' (fun x => by simp [mkS]) ws
  rw [ej] at HJ
  simp only [List.length_map] at HJ
  clear ej
  clear hPN ho4 hcap HW
  go_wp2_with fail
  refine (unhide HJ).mono ?_
  rintro e w5 ⟨rfl, hb5⟩
  have HB5 := hide (bT (unhide HB4) hb5)
  clear hb5 HJ
  go_wp2
  go_returns
  exact ⟨rfl, unhide HB5⟩
end Go.Proofs.YtmcbmmpjhijagaaGreatDoor
namespace Go.Proofs.YtmcbmmpjhijagaaGreatDoor
open Go Go.RowKit
theorem BlkS_iff (s q r : ByteArray) (m : Nat) (h : m ≤ s.size) (hq : q.toList = s.toList.take m) (hr : r.toList = cutS (s.toList.drop m)) :
    BlkS s.toList m ↔ (dB (onlyB q 115 0) = true ∧ dB (onlyB r 102 1) = true) := by
  unfold BlkS
  simp only [Int.toNat_natCast]
  rw [dB_iff, dB_iff, ← hq, ← hr, size_toList]
  have e1 := only_iff q 115 0
  have e2 := only_iff r 102 1
  rw [← e1, ← e2]
  constructor
  · intro ⟨_, _, h1, h2⟩; exact ⟨h1, h2⟩
  · intro ⟨h1, h2⟩; exact ⟨by omega, by omega, h1, h2⟩
set_option maxHeartbeats 2000000 in
theorem blockOk_calls (s : ByteArray) (n : Int) (w : World) (hs : s.size ≤ 1048576) :
    Calls Tryz.prog 54 #[.string s, .int .i64 n] w fun e w' => e = .returned (.bool (dB (BlkS s.toList n))) ∧ w' = w := by
  by_cases hA : n < 0
  · have HB : Hid (¬ BlkS s.toList n) := fun h => by have := h.1; omega
    have HE : Hid (dB (BlkS s.toList n) = false) := dB_false HB.out
    clear HB
    go_enter Tryz.func54, Tryz.ntmps54
    go_wp2
    go_ret
    exact ⟨congrArg (fun z => Ending.returned (.bool z)) HE.out.symm, rfl⟩
  by_cases hC : (s.size : Int) < n
  · have HB : Hid (¬ BlkS s.toList n) := fun h => by have := h.2.1; rw [size_toList] at this; omega
    have HE : Hid (dB (BlkS s.toList n) = false) := dB_false HB.out
    clear HB
    go_enter Tryz.func54, Tryz.ntmps54
    go_wp2
    go_ret
    exact ⟨congrArg (fun z => Ending.returned (.bool z)) HE.out.symm, rfl⟩
  obtain ⟨m, rfl⟩ := Int.eq_ofNat_of_zero_le (show 0 ≤ n by omega)
  have hle : m ≤ s.size := by omega
  have hle' : (m : Int) ≤ (s.size : Int) := by omega
  obtain ⟨q, hq⟩ : ∃ q, s.extract 0 m = q := ⟨_, rfl⟩
  obtain ⟨r, hr⟩ : ∃ r, s.extract m s.size = r := ⟨_, rfl⟩
  have hql : q.toList = s.toList.take m := by rw [← hq, extract_toList]; simp
  have hrl : r.toList = s.toList.drop m := by
    rw [← hr, extract_toList]
    apply List.take_of_length_le
    rw [List.length_drop, size_toList]
    exact Nat.le_refl _
  have hqs : q.size = m := by rw [← size_toList, hql, List.length_take, size_toList]; omega
  have hrs : r.size = s.size - m := by rw [← size_toList, hrl, List.length_drop, size_toList]
  have QC := fun w => only_calls q 115 0 w (by omega)
  clear hA hC
  by_cases h0 : s.size = m
  · have hr0 : r.size = 0 := by omega
    have hrn : r.toList = [] := List.eq_nil_of_length_eq_zero (by rw [size_toList]; exact hr0)
    have HB := hide (BlkS_iff s q r m hle hql (by rw [← hrl, hrn]; rfl))
    have RC := fun w => only_calls r 102 1 w (by omega)
    generalize dB (onlyB q 115 0) = b1 at *
    generalize dB (onlyB r 102 1) = b2 at *
    have HQC := hide QC; have HRC := hide RC
    clear QC RC hql hrl hqs hrs h0 hrn
    cases b1
    · have HE : Hid (dB (BlkS s.toList m) = false) := dB_false (fun h => by have := (HB.out.1 h).1; cases this)
      clear HB
      go_enter Tryz.func54, Tryz.ntmps54
      go_wp2_with fail
      refine (unhide HQC _).mono ?_; rintro e w1 ⟨rfl, rfl⟩
      go_wp2
      go_ret
      exact ⟨congrArg (fun z => Ending.returned (.bool z)) HE.out.symm, rfl⟩
    · cases b2
      · have HE : Hid (dB (BlkS s.toList m) = false) := dB_false (fun h => by have := (HB.out.1 h).2; cases this)
        clear HB
        go_enter Tryz.func54, Tryz.ntmps54
        go_wp2_with fail
        refine (unhide HQC _).mono ?_; rintro e w1 ⟨rfl, rfl⟩
        go_wp2_with fail
        refine (unhide HRC _).mono ?_; rintro e w1 ⟨rfl, rfl⟩
        go_wp2
        go_ret
        exact ⟨congrArg (fun z => Ending.returned (.bool z)) HE.out.symm, rfl⟩
      · have HE : Hid (dB (BlkS s.toList m) = true) := dB_true (HB.out.2 ⟨rfl, rfl⟩)
        clear HB
        go_enter Tryz.func54, Tryz.ntmps54
        go_wp2_with fail
        refine (unhide HQC _).mono ?_; rintro e w1 ⟨rfl, rfl⟩
        go_wp2_with fail
        refine (unhide HRC _).mono ?_; rintro e w1 ⟨rfl, rfl⟩
        go_wp2
        go_ret
        exact ⟨congrArg (fun z => Ending.returned (.bool z)) HE.out.symm, rfl⟩
  obtain ⟨L, hL⟩ : ∃ L, r.size = L + 1 := ⟨s.size - m - 1, by omega⟩
  have hLt : L < r.size := by omega
  have hLb : L ≤ 1048576 := by omega
  have eb := byt_eq r L hLt
  have hgl : r.toList.getLast? = some (r[L]'hLt) := by
    rw [List.getLast?_eq_getElem?, size_toList, hL, Nat.add_sub_cancel]
    have hl : L < r.toList.length := by rw [size_toList]; exact hLt
    rw [List.getElem?_eq_getElem hl]
    congr 1
    cases r with | mk d =>
    simp [Go.ByteArray.toList_eq]
    rfl
  have hcut : cutS (s.toList.drop m) = if byt r L = 99 then r.toList.dropLast else r.toList := by
    unfold cutS
    rw [← hrl, hgl, ← eb]
    by_cases e : r[L] = 99
    · rw [e]; simp
    · have e' : ¬ ((r[L]'hLt).toNat : Int) = 99 := fun h => e (UInt8.toNat_inj.1 (by simpa using (by omega : (r[L]'hLt).toNat = 99)))
      rw [if_neg (by simpa using e), if_neg e']
  by_cases h99 : byt r L = 99
  · obtain ⟨p, hp⟩ : ∃ p, r.extract 0 L = p := ⟨_, rfl⟩
    have hpl : p.toList = r.toList.dropLast := by
      rw [← hp, extract_toList, List.dropLast_eq_take, size_toList, hL]; simp
    have hps : p.size ≤ 1048576 := by
      rw [← size_toList, hpl, List.length_dropLast, size_toList]; omega
    have HB := hide (BlkS_iff s q p m hle hql (by rw [hcut, if_pos h99]; exact hpl))
    have RC := fun w => only_calls p 102 1 w hps
    have hb : (byt r L == 99) = true := by simp [h99]
    generalize byt r L = d at *
    generalize dB (onlyB q 115 0) = b1 at *
    generalize dB (onlyB p 102 1) = b2 at *
    have HQC := hide QC; have HRC := hide RC
    clear QC RC hql hrl hqs hrs h0 hgl hcut hpl hps h99
    cases b1
    · have HE : Hid (dB (BlkS s.toList m) = false) := dB_false (fun h => by have := (HB.out.1 h).1; cases this)
      clear HB
      go_enter Tryz.func54, Tryz.ntmps54
      go_wp2_with fail
      refine (unhide HQC _).mono ?_; rintro e w1 ⟨rfl, rfl⟩
      go_wp2
      go_ret
      exact ⟨congrArg (fun z => Ending.returned (.bool z)) HE.out.symm, rfl⟩
    · cases b2
      · have HE : Hid (dB (BlkS s.toList m) = false) := dB_false (fun h => by have := (HB.out.1 h).2; cases this)
        clear HB
        go_enter Tryz.func54, Tryz.ntmps54
        go_wp2_with fail
        refine (unhide HQC _).mono ?_; rintro e w1 ⟨rfl, rfl⟩
        go_wp2_with fail
        refine (unhide HRC _).mono ?_; rintro e w1 ⟨rfl, rfl⟩
        go_wp2
        go_ret
        exact ⟨congrArg (fun z => Ending.returned (.bool z)) HE.out.symm, rfl⟩
      · have HE : Hid (dB (BlkS s.toList m) = true) := dB_true (HB.out.2 ⟨rfl, rfl⟩)
        clear HB
        go_enter Tryz.func54, Tryz.ntmps54
        go_wp2_with fail
        refine (unhide HQC _).mono ?_; rintro e w1 ⟨rfl, rfl⟩
        go_wp2_with fail
        refine (unhide HRC _).mono ?_; rintro e w1 ⟨rfl, rfl⟩
        go_wp2
        go_ret
        exact ⟨congrArg (fun z => Ending.returned (.bool z)) HE.out.symm, rfl⟩
  · have HB := hide (BlkS_iff s q r m hle hql (by rw [hcut, if_neg h99]))
    have RC := fun w => only_calls r 102 1 w (by omega)
    have hb : (byt r L == 99) = false := by simp [h99]
    generalize byt r L = d at *
    generalize dB (onlyB q 115 0) = b1 at *
    generalize dB (onlyB r 102 1) = b2 at *
    have HQC := hide QC; have HRC := hide RC
    clear QC RC hql hrl hqs hrs h0 hgl hcut h99
    cases b1
    · have HE : Hid (dB (BlkS s.toList m) = false) := dB_false (fun h => by have := (HB.out.1 h).1; cases this)
      clear HB
      go_enter Tryz.func54, Tryz.ntmps54
      go_wp2_with fail
      refine (unhide HQC _).mono ?_; rintro e w1 ⟨rfl, rfl⟩
      go_wp2
      go_ret
      exact ⟨congrArg (fun z => Ending.returned (.bool z)) HE.out.symm, rfl⟩
    · cases b2
      · have HE : Hid (dB (BlkS s.toList m) = false) := dB_false (fun h => by have := (HB.out.1 h).2; cases this)
        clear HB
        go_enter Tryz.func54, Tryz.ntmps54
        go_wp2_with fail
        refine (unhide HQC _).mono ?_; rintro e w1 ⟨rfl, rfl⟩
        go_wp2_with fail
        refine (unhide HRC _).mono ?_; rintro e w1 ⟨rfl, rfl⟩
        go_wp2
        go_ret
        exact ⟨congrArg (fun z => Ending.returned (.bool z)) HE.out.symm, rfl⟩
      · have HE : Hid (dB (BlkS s.toList m) = true) := dB_true (HB.out.2 ⟨rfl, rfl⟩)
        clear HB
        go_enter Tryz.func54, Tryz.ntmps54
        go_wp2_with fail
        refine (unhide HQC _).mono ?_; rintro e w1 ⟨rfl, rfl⟩
        go_wp2_with fail
        refine (unhide HRC _).mono ?_; rintro e w1 ⟨rfl, rfl⟩
        go_wp2
        go_ret
        exact ⟨congrArg (fun z => Ending.returned (.bool z)) HE.out.symm, rfl⟩
end Go.Proofs.YtmcbmmpjhijagaaGreatDoor
