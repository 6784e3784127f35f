import Derived.Test.YtnchcndcinpalaaGreatDoorQ11
import Derived.Test.YtnchcndcinpalaaGreatDoorQ29
import Derived.Test.YtnchcndcinpalaaGreatDoorQ30
import Derived.Test.YtnchcndcinpalaaGreatDoorQ31
import Derived.BigQuiet
namespace Go.Proofs.YtnchcndcinpalaaGreatDoor
open Go Go.RowKit
structure CF (s g np cap gt nt capt vb wb eb : Nat) (f : Nat → Int) (G : List Int) (W : World) : Prop where
  pf : PF s g np cap gt nt capt W
  var : W.cell? ⟨vb, 0, none⟩ = some (.slice (some ⟨wb, 0, none⟩) np np)
  vsz : vb < W.heap.size
  row : FnRow W wb np f
  env : IntRow W eb G
theorem CF.of {s g np cap gt nt capt vb wb eb : Nat} {f : Nat → Int} {G : List Int} {W W1 : World} (h : CF s g np cap gt nt capt vb wb eb f G W) (hb : Below W.heap.size W W1) : CF s g np cap gt nt capt vb wb eb f G W1 :=
  ⟨h.pf.of hb, (hb.cell (p := ⟨vb, 0, none⟩) h.vsz).trans h.var, Nat.lt_of_lt_of_le h.vsz hb.size, h.row.of hb, h.env.of hb⟩
def CkPost (ts : List Tb) (ps : List Pn) (w : World) (e : Ending) (w' : World) : Prop :=
  ((PlanV ts ps ∧ ∃ b, e = .returned (.tuple #[.slice (some ⟨b, 0, none⟩) ps.length ps.length, .bool true]) ∧ FnRow w' b ps.length (iw ts ps)) ∨ (¬ PlanV ts ps ∧ e = .returned (.tuple #[.slice none 0 0, .bool false]))) ∧ Below w.heap.size w w'
set_option maxRecDepth 100000 in
set_option maxHeartbeats 16000000 in
theorem checkPlan_calls (ts : List Tb) (ps : List Pn) (g cap gt capt : Nat) (w : World) (lp : ps.length ≤ 1048576) (lt : ts.length ≤ 1048576) (hsm : SmallT ts) (fit : ∀ p ∈ ps, p.Ex.length ≤ 1048576 ∧ p.Exs.length ≤ 1048576 ∧ ∀ xs ∈ p.Exs, xs.length ≤ 1048576)
    (hg : g < w.heap.size) (hn : PnsAt w g 0 ps) (hgt : gt < w.heap.size) (ht : TablesAt w gt 0 ts) (hTK : TKw w) (hTP : TPlan w) (hTT : TTakes w) :
    Calls Tryz.prog 46 #[.agg #[.slice (some ⟨g, 0, none⟩) ps.length cap], .agg #[.slice (some ⟨gt, 0, none⟩) ts.length capt]] w (CkPost ts ps w) := by
  have HDb := hide (fun W (hb : Below w.heap.size w W) => DbOk_calls ts gt capt W (Nat.lt_of_lt_of_le hgt hb.size) (ht.of hgt hb) lt hsm (hTK.of hb))
  have hmf : ∀ (fn : Go.Fn) (first cap : Array Value) (w : World), (Instr.makeFunc fn first cap).run Tryz.prog w = .ok (.func fn first cap) w := fun _ _ _ _ => rfl
  by_cases h1 : (ps.length : Int) < 1
  · have HNo : Hid (¬ PlanV ts ps) := fun h => by have := h.some; omega
    clear hn ht hsm fit hTK hTP hTT HDb hmf
    go_enter Tryz.func46, Tryz.ntmps46
    go_wp2
    go_ret2
    exact ⟨Or.inr ⟨HNo.out, rfl⟩, bA (bA (Below.refl _ _) _) _⟩
  by_cases h2 : 2000 < (ps.length : Int)
  · have HNo : Hid (¬ PlanV ts ps) := fun h => by have := h.few; omega
    clear hn ht hsm fit hTK hTP hTT HDb hmf
    go_enter Tryz.func46, Tryz.ntmps46
    go_wp2
    go_ret2
    exact ⟨Or.inr ⟨HNo.out, rfl⟩, bA (bA (Below.refl _ _) _) _⟩
  by_cases hd : DbV ts
  rotate_left
  · have HNo : Hid (¬ PlanV ts ps) := fun h => hd h.db
    have HD : Hid (dB (DbV ts) = false) := dB_false hd
    clear hn ht hsm fit hTK hTP hTT hmf hd
    generalize dB (DbV ts) = B at *
    obtain rfl := HD.out
    go_enter Tryz.func46, Tryz.ntmps46
    go_wp2_with fail
    refine (unhide HDb _ (bA (bA (Below.refl _ _) _) _)).mono ?_; rintro e w1 ⟨rfl, hb⟩
    have n1 := bT (bA (bA (Below.refl w.heap.size w) _) _) hb
    go_wp2
    go_ret2
    exact ⟨Or.inr ⟨HNo.out, rfl⟩, n1⟩
  have HD : Hid (dB (DbV ts) = true) := dB_true hd
  generalize hBd : dB (DbV ts) = B at *
  obtain rfl := HD.out
  clear hBd HD
  have HN := hide hn; have HTt := hide ht; have HFit := hide fit; have HTP := hide hTP; have HTT := hide hTT; have HDv := hide hd
  clear hn ht hsm fit hTK hTP hTT hd
  go_enter Tryz.func46, Tryz.ntmps46
  go_wp2_with fail
  refine (unhide HDb _ (bA (bA (Below.refl _ _) _) _)).mono ?_; rintro e w1 ⟨rfl, hb⟩
  have n1 := bT (bA (bA (Below.refl w.heap.size w) _) _) hb
  have F := PF.of (s := w.heap.size) (g := g) (np := ps.length) (cap := cap) (gt := gt) (nt := ts.length) (capt := capt) ⟨by simp [go_sem], by simp [go_sem], by simp⟩ hb
  clear hb HDb
  obtain ⟨fp, fd, fs⟩ := id F
  go_wp2
  go_loopw [30] (fun c wr => ∃ k : Nat, k ≤ ps.length ∧ c = .int .i64 k ∧ (∀ (i : Nat) (hi : i < ps.length), i < k → FldV ts.length ps[i]) ∧ PF w.heap.size g ps.length cap gt ts.length capt wr ∧ Below w.heap.size w wr) (fun c _ => ps.length - (intOf c).toNat)
  case atStart => exact ⟨0, Nat.zero_le _, rfl, fun i hi h => by omega, F, n1⟩
  case round =>
    clear fp fd fs F n1
    obtain ⟨k, hk, rfl, hw, F, hb⟩ := hrel
    have HW := hide hw
    clear hw
    by_cases hlt : k < ps.length
    · obtain ⟨c0, c1, c2, c5, c6, ⟨b3, c3, _⟩, b4, c4, _⟩ := ((unhide HN).of hg hb).at k hlt
      simp only [Nat.zero_add] at c0 c1 c2 c3 c4 c5 c6
      have hbad : ¬ FldV ts.length ps[k] → ¬ PlanV ts ps := fun h hv => h (hv.fld k hlt)
      have hgood : FldV ts.length ps[k] → ∀ (i : Nat) (hi : i < ps.length), i < k + 1 → FldV ts.length ps[i] := fun h i hi hik => by
        by_cases e : i = k
        · subst e; exact h
        · exact unhide HW i hi (by omega)
      have hft := unhide HFit _ (List.getElem_mem hlt)
      have j1 : (k : Int) < (ps.length : Int) := by omega
      have q1 : g < wr.heap.size := Nat.lt_of_lt_of_le hg hb.size
      cases e : ps[k] with | mk K T M Ex Exs L R =>
      rw [e] at c0 c1 c2 c3 c4 c5 c6 hbad hgood hft
      simp only at c0 c1 c2 c3 c4 c5 c6 hft
      have HFO := hide (fun W (hbW : Below w.heap.size w W) => fieldsOk_calls ts.length K T M L R Ex.length Exs.length (some ⟨b3, 0, none⟩) (some ⟨b4, 0, none⟩) Ex.length Exs.length W lt hft.1 hft.2.1 ((unhide HTP).of hbW))
      have HBad := hide (fun (h : ¬ FldN ts.length K T M Ex.length Exs.length L R) => hbad (fun h' => h ((fldV_iff _ _).1 h'))); have HGood := hide (fun (h : FldN ts.length K T M Ex.length Exs.length L R) => hgood ((fldV_iff _ _).2 h))
      have HD2 : Hid (dB (FldN ts.length K T M Ex.length Exs.length L R) = true ↔ FldN ts.length K T M Ex.length Exs.length L R) := dB_iff
      generalize dB (FldN ts.length K T M Ex.length Exs.length L R) = E at *
      have HB0 := hide (bA (Below.refl wr.heap.size wr) (.cells #[.int .i64 K, .int .i64 T, .int .i64 M, .slice (some ⟨b3, 0, none⟩) Ex.length Ex.length, .slice (some ⟨b4, 0, none⟩) Exs.length Exs.length, .int .i64 L, .int .i64 R] 130))
      clear hbad hgood e hft HN HTt HFit HTP HTT HDv hmf
      obtain ⟨fp, fd, fs⟩ := id F
      cases E
      · have HE := hide (unhide HBad (fun h => by have := HD2.out.2 h; cases this))
        clear HBad HGood HD2 HW
        go_wp2_with fail
        refine (unhide HFO _ (bT hb (unhide HB0))).mono ?_; rintro e w2 ⟨rfl, hb2⟩
        have HB := hide (bT (bT hb (unhide HB0)) hb2)
        clear hb2
        go_wp2
        go_ret2
        exact ⟨Or.inr ⟨unhide HE, rfl⟩, unhide HB⟩
      · have HGd := hide (unhide HGood (HD2.out.1 (by first | rfl | trivial)))
        clear HBad HGood HD2 HW
        go_wp2_with fail
        refine (unhide HFO _ (bT hb (unhide HB0))).mono ?_; rintro e w2 ⟨rfl, hb2⟩
        have HB := hide (bT (bT hb (unhide HB0)) hb2)
        have HF2 := hide ((F.of (unhide HB0)).of hb2)
        clear hb2
        go_wp2
        go_roundw
        case rel => exact ⟨k + 1, by omega, by go_num, unhide HGd, unhide HF2, unhide HB⟩
        case measure => simp [intOf]; omega
    · obtain rfl : k = ps.length := by omega
      have hfld : ∀ (i : Nat) (hi : i < ps.length), FldV ts.length ps[i] := fun i hi => unhide HW i hi hi
      have HFl := hide hfld
      have HOO := hide (fun W (hbW : Below w.heap.size w W) => orderOk_calls ps ts.length g cap W (Nat.lt_of_lt_of_le hg hbW.size) ((unhide HN).of hg hbW) (by omega) lp hfld ((unhide HTP).of hbW))
      clear hfld HW
      obtain ⟨fp, fd, fs⟩ := id F
      by_cases hord : frm (nds ps) (ps.length - 1) = 0
      rotate_left
      · have HNo : Hid (¬ PlanV ts ps) := fun h => hord h.all
        have HO : Hid (dB (frm (nds ps) (ps.length - 1) = 0) = false) := dB_false hord
        clear HN HTt HFit HTP HTT HDv HFl hmf hord
        generalize dB (frm (nds ps) (ps.length - 1) = 0) = B at *
        obtain rfl := HO.out
        go_wp2_with fail
        refine (unhide HOO _ hb).mono ?_; rintro e w2 ⟨rfl, hb2⟩
        have HB := hide (bT hb hb2)
        clear hb2
        go_wp2
        go_ret2
        exact ⟨Or.inr ⟨HNo.out, rfl⟩, unhide HB⟩
      have hO : dB (frm (nds ps) (ps.length - 1) = 0) = true := dB_true hord
      rw [hO] at HOO
      have hGood : Good ts ps := ⟨unhide HDv, by omega, unhide HFl, hord⟩
      have HG := hide hGood
      have h2000 : ps.length ≤ 2000 := by omega
      have hexs : ∀ p ∈ ps, p.Exs.length ≤ 1048576 := fun p hp => (unhide HFit p hp).2.1
      have hbd : ∀ j, j < ps.length → 0 ≤ iw ts ps j ∧ iw ts ps j ≤ 4294967296 := fun j hj => by
        have h1 := hGood.iw_le hexs (j + 1) j (by omega) hj
        have h2 := frm_le (nds ps) j
        have h3 := hGood.frm hj
        generalize Go.Proofs.YtnchcndcinpalaaGreatDoor.iw ts ps j = z at *
        generalize Go.Proofs.YtnchcndcinpalaaGreatDoor.frm (nds ps) j = f at *
        omega
      have HBd := hide hbd
      have HPW := hide (fun W (hbW : Below w.heap.size w W) => planWidths_calls ts ps g cap gt capt W (Nat.lt_of_lt_of_le hg hbW.size) ((unhide HN).of hg hbW) (Nat.lt_of_lt_of_le hgt hbW.size) ((unhide HTt).of hgt hbW) hGood h2000 hexs)
      have HHD := hide (fun W (hbW : Below w.heap.size w W) vb hf hC => handDownE_calls ts ps g cap vb (fun env left => env + iw ts ps left.toNat) 0 W (Nat.lt_of_lt_of_le hg hbW.size) ((unhide HN).of hg hbW) hGood h2000 ((unhide HTP).of hbW) (by omega) (by omega) hf hC)
      clear hO hord hGood hexs hbd HFl HDv HTt
      go_wp2_with fail
      refine (unhide HOO _ hb).mono ?_; rintro e w2 ⟨rfl, hb2⟩
      have d2 := bT hb hb2
      have F2 := F.of hb2
      clear hb2 fp fd fs F HOO
      obtain ⟨fp, fd, fs⟩ := id F2
      go_wp2_with fail
      refine (unhide HPW _ d2).mono ?_; rintro e w3 ⟨wb, rfl, hwb, hrow3, hb3⟩
      have d3 := bT d2 hb3
      have F3 := F2.of hb3
      have HR3 := hide hrow3
      clear hb3 fp fd fs F2 HPW hrow3 d2
      obtain ⟨fp, fd, fs⟩ := id F3
      have s3 : w.heap.size < w3.heap.size := by omega
      go_wp2_with fail
      refine (unhide HHD _ (bA d3 _) w3.heap.size (fun v l h0 h1 hl => by
        have := unhide HBd l hl
        simp only [Int.toNat_natCast]
        omega) (fun W hbW v l h0 h1 hl => closE_calls ps.length wb w3.heap.size (iw ts ps) v l W ((hbW.cell (p := ⟨w3.heap.size, 0, none⟩) (by simp)).trans (by simp [go_sem])) (((unhide HR3).of (bA (Below.refl _ _) _)).of hbW) hl h0 h1 (unhide HBd l hl).1 (unhide HBd l hl).2)).mono ?_; rintro e w5 ⟨eb, G, rfl, heb, hHd, hBdG, hrowE, hb5⟩
      have d5 := bT (bA d3 _) hb5
      have C5 : CF w.heap.size g ps.length cap gt ts.length capt w3.heap.size wb eb (iw ts ps) G w5 := ⟨(F3.of (bA (Below.refl _ _) _)).of hb5, (hb5.cell (p := ⟨w3.heap.size, 0, none⟩) (by simp)).trans (by simp [go_sem]), (by have := hb5.size; simp at this; omega), ((unhide HR3).of (bA (Below.refl _ _) _)).of hb5, hrowE⟩
      have HHd := hide hHd; have HBdG := hide hBdG
      clear hb5 fp fd fs F3 HHD HR3 hrowE hHd hBdG heb s3
      obtain ⟨⟨fp, fd, fs⟩, fv, fvs, frow, fenv⟩ := id C5
      clear frow fenv
      have vlt : w3.heap.size < w5.heap.size := fvs
      have fs0 : w.heap.size < w5.heap.size := by omega
      generalize w3.heap.size = vb at *
      go_wp2
      go_loopw [57] (fun c wr => ∃ k : Nat, k ≤ ps.length ∧ c = .int .i64 k ∧ (∀ (i : Nat) (hi : i < ps.length), i < k → CondI ts ps G i ps[i]) ∧ CF w.heap.size g ps.length cap gt ts.length capt vb wb eb (iw ts ps) G wr ∧ Below w.heap.size w wr) (fun c _ => ps.length - (intOf c).toNat)
      case atStart => exact ⟨0, Nat.zero_le _, rfl, fun i hi h => by omega, C5, d5⟩
      case round =>
        clear fp fd fs fv fvs vlt fs0 C5 d5 d3 hmf
        obtain ⟨k, hk, rfl, hw, C, hb⟩ := hrel
        have HW := hide hw
        clear hw
        by_cases hlt : k < ps.length
        · obtain ⟨c0, c1, c2, c5, c6, ⟨b3, c3, hgb3, hb3, ho3⟩, b4, c4, hgb4, hb4, ho4⟩ := ((unhide HN).of hg hb).at k hlt
          simp only [Nat.zero_add] at c0 c1 c2 c3 c4 c5 c6
          have hbad : ¬ CondI ts ps G k ps[k] → ¬ PlanV ts ps := fun h => not_planV (unhide HG) (unhide HHd) hlt h
          have hgood : CondI ts ps G k ps[k] → ∀ (i : Nat) (hi : i < ps.length), i < k + 1 → CondI ts ps G i ps[i] := fun h i hi hik => by
            by_cases e : i = k
            · subst e; exact h
            · exact unhide HW i hi (by omega)
          have hft := unhide HFit _ (List.getElem_mem hlt)
          have hkd := (unhide HG).kids hlt
          have hfl := (unhide HG).fld k hlt
          have hxs := (unhide HBdG).small h2000 k
          have hys := unhide HBd k hlt
          have hGl := (unhide HHd).len
          have j1 : (k : Int) < (ps.length : Int) := by omega
          have q1 : g < wr.heap.size := Nat.lt_of_lt_of_le hg hb.size
          cases e : ps[k] with | mk K T M Ex Exs L R =>
          rw [e] at c0 c1 c2 c3 c4 c5 c6 hbad hgood hft hkd hfl ho3 ho4
          simp only at c0 c1 c2 c3 c4 c5 c6 hft hkd ho3 ho4
          have hB0 := bA (Below.refl wr.heap.size wr) (.cells #[.int .i64 K, .int .i64 T, .int .i64 M, .slice (some ⟨b3, 0, none⟩) Ex.length Ex.length, .slice (some ⟨b4, 0, none⟩) Exs.length Exs.length, .int .i64 L, .int .i64 R] 130)
          have HX := hide (fun W (hbW : Below wr.heap.size wr W) => seenOk_calls ts.length K T M L R Ex Exs b3 b4 ps.length wb (G.getD k 0) (iw ts ps) W ((fldV_iff _ _).1 hfl) (by omega) (fun h => ⟨(hkd.1 h).1, by have := (hkd.1 h).2; omega⟩) (fun h => ⟨(hkd.2 h).1, by have := (hkd.2 h).2; omega⟩) hxs.1 hxs.2 (unhide HBd) (Nat.lt_of_lt_of_le hb3 hbW.size) (ho3.of hb3 hbW) (Nat.lt_of_lt_of_le hb4 hbW.size) (ho4.of hb4 hbW) (C.row.of hbW) hft.1 hft.2.1 hft.2.2 ((unhide HTP).of (bT hb hbW)) ((unhide HTT).of (bT hb hbW)))
          have hcd : CondI ts ps G k ⟨K, T, M, Ex, Exs, L, R⟩ ↔ (G.getD k 0 + iw ts ps k ≤ 200 ∧ (K = 10 → iw ts ps L.toNat = iw ts ps R.toNat) ∧ dB (ExsV ⟨K, T, M, Ex, Exs, L, R⟩ (G.getD k 0) (iw ts ps L.toNat) (iw ts ps R.toNat)) = true) := by
            rw [dB_iff]; exact Iff.rfl
          have CB := C.of hB0
          have x1 := CB.env.at k (by omega)
          have y1 := CB.row.at k hlt
          have hvar := CB.var
          have z1 := CB.vsz
          have z2 := CB.row.lt
          have z3 := CB.env.size
          have hrows := fun (q : Nat) (hq : q < ps.length) => CB.row.at q hq
          obtain ⟨n0, n1, n2, n3, n4, n5, n6⟩ := (fun Q (hQ : (wr.alloc (.cells #[.int .i64 K, .int .i64 T, .int .i64 M, .slice (some ⟨b3, 0, none⟩) Ex.length Ex.length, .slice (some ⟨b4, 0, none⟩) Exs.length Exs.length, .int .i64 L, .int .i64 R] 130)) = Q) => (by subst hQ; exact ⟨by simp [go_sem], by simp [go_sem], by simp [go_sem], by simp [go_sem], by simp [go_sem], by simp [go_sem], by simp [go_sem]⟩ : Q.cell? ⟨wr.heap.size, 0, none⟩ = some (.int .i64 K) ∧ Q.cell? ⟨wr.heap.size, 1, none⟩ = some (.int .i64 T) ∧ Q.cell? ⟨wr.heap.size, 2, none⟩ = some (.int .i64 M) ∧ Q.cell? ⟨wr.heap.size, 3, none⟩ = some (.slice (some ⟨b3, 0, none⟩) Ex.length Ex.length) ∧ Q.cell? ⟨wr.heap.size, 4, none⟩ = some (.slice (some ⟨b4, 0, none⟩) Exs.length Exs.length) ∧ Q.cell? ⟨wr.heap.size, 5, none⟩ = some (.int .i64 L) ∧ Q.cell? ⟨wr.heap.size, 6, none⟩ = some (.int .i64 R))) _ rfl
          have z4 : wr.heap.size < (wr.alloc (.cells #[.int .i64 K, .int .i64 T, .int .i64 M, .slice (some ⟨b3, 0, none⟩) Ex.length Ex.length, .slice (some ⟨b4, 0, none⟩) Exs.length Exs.length, .int .i64 L, .int .i64 R] 130)).heap.size := by simp
          have HBw := hide (bT hb hB0)
          have RX0 : Hid (∀ W, Std (wr.alloc (.cells #[.int .i64 K, .int .i64 T, .int .i64 M, .slice (some ⟨b3, 0, none⟩) Ex.length Ex.length, .slice (some ⟨b4, 0, none⟩) Exs.length Exs.length, .int .i64 L, .int .i64 R] 130)) W → Calls Tryz.prog 88 #[.agg #[.int .i64 K, .int .i64 T, .int .i64 M, .slice (some ⟨b3, 0, none⟩) Ex.length Ex.length, .slice (some ⟨b4, 0, none⟩) Exs.length Exs.length, .int .i64 L, .int .i64 R], .int .i64 (G.getD k 0), .slice (some ⟨wb, 0, none⟩) ps.length ps.length] W fun e w' => e = .returned (.bool (dB (ExsV ⟨K, T, M, Ex, Exs, L, R⟩ (G.getD k 0) (iw ts ps L.toNat) (iw ts ps R.toNat)))) ∧ Below W.heap.size W w') := fun W h => unhide HX W (bT hB0 h.2.2)
          have HCF := hide CB; have HBad := hide hbad; have HGood := hide hgood; have HCd := hide hcd; have HKd := hide hkd; have HRows := hide hrows
          obtain ⟨x, hx⟩ : ∃ x, G.getD k 0 = x := ⟨_, rfl⟩
          obtain ⟨y, hy⟩ : ∃ y, iw ts ps k = y := ⟨_, rfl⟩
          rw [hx] at x1 hxs RX0 HCd
          rw [hy] at y1 hys HCd
          obtain ⟨hx0, hx1⟩ := hxs
          obtain ⟨hy0, hy1⟩ := hys
          clear hbad hgood hcd hkd hfl hft hB0 HX C CB e ho3 ho4 hrows hx hy HN HG HHd HBdG HFit HTP HTT HBd HW hgb3 hgb4 hGl
          by_cases hA : 200 < x + y
          · have HNo := hide (unhide HBad (fun h => by have := ((unhide HCd).1 h).1; omega))
            clear HBad HGood HCd HCF RX0 HKd HRows
            go_upto_region 16 with fail
            clear c0 c1 c2 c3 c4 c5 c6
            generalize (wr.alloc (.cells #[.int .i64 K, .int .i64 T, .int .i64 M, .slice (some ⟨b3, 0, none⟩) Ex.length Ex.length, .slice (some ⟨b4, 0, none⟩) Exs.length Exs.length, .int .i64 L, .int .i64 R] 130)) = Wb at *
            generalize wr.heap.size = bx at *
            go_quiet (fail)
            go_wp2
            go_ret2
            exact ⟨Or.inr ⟨unhide HNo, rfl⟩, below_drewN (unhide HBw) _⟩
          have hA' : x + y ≤ 200 := by omega
          have hA2 : ¬ 200 < x + y := hA
          have hwp : IntKind.i64.wrap (x + y) = x + y := wrap_small _ (by omega) (by omega)
          by_cases hK10 : K = 10
          · subst hK10
            obtain ⟨hL0, hL1⟩ := (unhide HKd).1 (by decide)
            obtain ⟨hR0, hR1⟩ := (unhide HKd).2 (by decide)
            obtain ⟨q, rfl⟩ : ∃ q : Nat, L = (q : Int) := ⟨L.toNat, by omega⟩
            obtain ⟨j, rfl⟩ : ∃ j : Nat, R = (j : Int) := ⟨R.toNat, by omega⟩
            have hq : q < ps.length := by omega
            have hj : j < ps.length := by omega
            have hqn : (q : Int) < (ps.length : Int) := by omega
            have hjn : (j : Int) < (ps.length : Int) := by omega
            have rq := unhide HRows q hq
            have rj := unhide HRows j hj
            clear hL0 hL1 hR0 hR1 HKd HRows
            by_cases hyy : iw ts ps q = iw ts ps j
            rotate_left
            · have HNo := hide (unhide HBad (fun h => hyy (by have := ((unhide HCd).1 h).2.1 rfl; simpa using this)))
              have hne : (iw ts ps q != iw ts ps j) = true := by simpa using hyy
              clear HBad HGood HCd HCF RX0 hyy
              obtain ⟨y2, hy2⟩ : ∃ y2, iw ts ps q = y2 := ⟨_, rfl⟩
              obtain ⟨y3, hy3⟩ : ∃ y3, iw ts ps j = y3 := ⟨_, rfl⟩
              rw [hy2] at rq hne
              rw [hy3] at rj hne
              clear hy2 hy3
              go_upto_region 16 with fail
              clear c0 c1 c2 c3 c4 c5 c6
              generalize (wr.alloc (.cells #[.int .i64 10, .int .i64 T, .int .i64 M, .slice (some ⟨b3, 0, none⟩) Ex.length Ex.length, .slice (some ⟨b4, 0, none⟩) Exs.length Exs.length, .int .i64 (q : Int), .int .i64 (j : Int)] 130)) = Wb at *
              generalize wr.heap.size = bx at *
              go_quiet (fail)
              go_wp2
              go_ret2
              exact ⟨Or.inr ⟨unhide HNo, rfl⟩, below_drewN (unhide HBw) _⟩
            have HYY : Hid (iw ts ps ((q : Int)).toNat = iw ts ps ((j : Int)).toNat) := by
              show _ = _
              simpa using hyy
            obtain ⟨y2, hy2⟩ : ∃ y2, iw ts ps j = y2 := ⟨_, rfl⟩
            rw [hyy, hy2] at rq
            rw [hy2] at rj
            have hne : (y2 != y2) = false := by simp
            clear hyy hy2
            obtain ⟨E2, hE2⟩ : ∃ E2, dB (ExsV ⟨10, T, M, Ex, Exs, (q : Int), (j : Int)⟩ x (iw ts ps ((q : Int)).toNat) (iw ts ps ((j : Int)).toNat)) = E2 := ⟨_, rfl⟩
            rw [hE2] at RX0 HCd
            have RX := RX0
            clear hE2 RX0
            cases E2
            · have HNo := hide (unhide HBad (fun h => by have := ((unhide HCd).1 h).2.2; cases this))
              clear HBad HGood HCd
              go_upto_region 16 with fail
              clear c0 c1 c2 c3 c4 c5 c6
              generalize (wr.alloc (.cells #[.int .i64 10, .int .i64 T, .int .i64 M, .slice (some ⟨b3, 0, none⟩) Ex.length Ex.length, .slice (some ⟨b4, 0, none⟩) Exs.length Exs.length, .int .i64 (q : Int), .int .i64 (j : Int)] 130)) = Wb at *
              generalize wr.heap.size = bx at *
              refine wp_region_held_drew (S := Std Wb) (by kernel_rfl) (Std.drew (Std.refl _)) (fun hHeld => ?_)
              refine tW 0 62 (.slice (some ⟨eb, 0, none⟩) ps.length ps.length) ?_
              simp only [puts]
              refine tW 1 63 (.int .i64 (k : Int)) ?_
              simp only [puts]
              refine tW 2 64 (.pointer (some ⟨eb, k, none⟩)) ?_
              simp only [puts]
              refine tW 3 65 (.int .i64 x) ?_
              simp only [puts]
              refine tW 4 66 (.slice (some ⟨wb, 0, none⟩) ps.length ps.length) ?_
              simp only [puts]
              refine tW 5 67 (.int .i64 (k : Int)) ?_
              simp only [puts]
              refine tW 6 68 (.pointer (some ⟨wb, k, none⟩)) ?_
              simp only [puts]
              refine tW 7 69 (.int .i64 y) ?_
              simp only [puts]
              refine tW 8 70 (.int .i64 (x + y)) ?_
              simp only [puts]
              refine tW 9 71 (.bool false) ?_
              simp only [puts]
              refine tW 10 72 (.bool false) ?_
              simp only [puts]
              refine tW 11 73 (.pointer (some ⟨bx, 0, none⟩)) ?_
              simp only [puts]
              refine tW 12 74 (.int .i64 10) ?_
              simp only [puts]
              refine tW 13 75 (.bool true) ?_
              simp only [puts]
              refine tW 14 76 (.bool true) ?_
              simp only [puts]
              refine tW 15 77 (.slice (some ⟨wb, 0, none⟩) ps.length ps.length) ?_
              simp only [puts]
              refine tW 16 78 (.pointer (some ⟨bx, 5, none⟩)) ?_
              simp only [puts]
              refine tW 17 79 (.int .i64 (q : Int)) ?_
              simp only [puts]
              refine tW 18 80 (.pointer (some ⟨wb, q, none⟩)) ?_
              simp only [puts]
              refine tW 19 81 (.int .i64 y2) ?_
              simp only [puts]
              refine tW 20 82 (.slice (some ⟨wb, 0, none⟩) ps.length ps.length) ?_
              simp only [puts]
              refine tW 21 83 (.pointer (some ⟨bx, 6, none⟩)) ?_
              simp only [puts]
              refine tW 22 84 (.int .i64 (j : Int)) ?_
              simp only [puts]
              refine tW 23 85 (.pointer (some ⟨wb, j, none⟩)) ?_
              simp only [puts]
              refine tW 24 86 (.int .i64 y2) ?_
              simp only [puts]
              refine tW 25 87 (.bool false) ?_
              simp only [puts]
              refine tW 26 88 (.bool false) ?_
              simp only [puts]
              refine tW 27 89 (.bool false) ?_
              simp only [puts]
              refine tW 28 90 (.bool false) ?_
              simp only [puts]
              refine tW 29 91 (.agg #[.int .i64 10, .int .i64 T, .int .i64 M, .slice (some ⟨b3, 0, none⟩) Ex.length Ex.length, .slice (some ⟨b4, 0, none⟩) Exs.length Exs.length, .int .i64 (q : Int), .int .i64 (j : Int)]) ?_
              simp only [puts]
              refine tW 30 92 (.slice (some ⟨eb, 0, none⟩) ps.length ps.length) ?_
              simp only [puts]
              refine tW 31 93 (.int .i64 (k : Int)) ?_
              simp only [puts]
              refine tW 32 94 (.pointer (some ⟨eb, k, none⟩)) ?_
              simp only [puts]
              refine tW 33 95 (.int .i64 x) ?_
              simp only [puts]
              refine tW 34 96 (.slice (some ⟨wb, 0, none⟩) ps.length ps.length) ?_
              simp only [puts]
              refine wpAnyH_ready (rs := [35]) (by kernel_rfl) (by simp) ?_
              refine AllReadyH.cons rfl (fun Kx hK => ?_) AllReadyH.nil
              go_simp
              refine (unhide RX _ (by assumption)).mono ?_
              rintro e w2 ⟨rfl, hb2⟩
              refine hK.out _ _ (Std.call (by assumption) hb2) (fun hHeld2 => ?_)
              clear hK Kx
              refine tW 36 98 (.bool true) ?_
              simp only [puts]
              refine tW 37 99 (.bool true) ?_
              simp only [puts]
              refine wpAnyH_done (by kernel_rfl) ?_ _
              have HB := hide (bT (unhide HBw) hHeld2.2.2)
              clear HCF HBw
              go_wp2
              go_ret2
              exact ⟨Or.inr ⟨unhide HNo, rfl⟩, unhide HB⟩
            · have HNx := hide (unhide HGood ((unhide HCd).2 ⟨hA', fun _ => unhide HYY, by first | rfl | trivial⟩))
              clear HBad HGood HCd
              go_upto_region 16 with fail
              clear c0 c1 c2 c3 c4 c5 c6
              generalize (wr.alloc (.cells #[.int .i64 10, .int .i64 T, .int .i64 M, .slice (some ⟨b3, 0, none⟩) Ex.length Ex.length, .slice (some ⟨b4, 0, none⟩) Exs.length Exs.length, .int .i64 (q : Int), .int .i64 (j : Int)] 130)) = Wb at *
              generalize wr.heap.size = bx at *
              refine wp_region_held_drew (S := Std Wb) (by kernel_rfl) (Std.drew (Std.refl _)) (fun hHeld => ?_)
              refine tW 0 62 (.slice (some ⟨eb, 0, none⟩) ps.length ps.length) ?_
              simp only [puts]
              refine tW 1 63 (.int .i64 (k : Int)) ?_
              simp only [puts]
              refine tW 2 64 (.pointer (some ⟨eb, k, none⟩)) ?_
              simp only [puts]
              refine tW 3 65 (.int .i64 x) ?_
              simp only [puts]
              refine tW 4 66 (.slice (some ⟨wb, 0, none⟩) ps.length ps.length) ?_
              simp only [puts]
              refine tW 5 67 (.int .i64 (k : Int)) ?_
              simp only [puts]
              refine tW 6 68 (.pointer (some ⟨wb, k, none⟩)) ?_
              simp only [puts]
              refine tW 7 69 (.int .i64 y) ?_
              simp only [puts]
              refine tW 8 70 (.int .i64 (x + y)) ?_
              simp only [puts]
              refine tW 9 71 (.bool false) ?_
              simp only [puts]
              refine tW 10 72 (.bool false) ?_
              simp only [puts]
              refine tW 11 73 (.pointer (some ⟨bx, 0, none⟩)) ?_
              simp only [puts]
              refine tW 12 74 (.int .i64 10) ?_
              simp only [puts]
              refine tW 13 75 (.bool true) ?_
              simp only [puts]
              refine tW 14 76 (.bool true) ?_
              simp only [puts]
              refine tW 15 77 (.slice (some ⟨wb, 0, none⟩) ps.length ps.length) ?_
              simp only [puts]
              refine tW 16 78 (.pointer (some ⟨bx, 5, none⟩)) ?_
              simp only [puts]
              refine tW 17 79 (.int .i64 (q : Int)) ?_
              simp only [puts]
              refine tW 18 80 (.pointer (some ⟨wb, q, none⟩)) ?_
              simp only [puts]
              refine tW 19 81 (.int .i64 y2) ?_
              simp only [puts]
              refine tW 20 82 (.slice (some ⟨wb, 0, none⟩) ps.length ps.length) ?_
              simp only [puts]
              refine tW 21 83 (.pointer (some ⟨bx, 6, none⟩)) ?_
              simp only [puts]
              refine tW 22 84 (.int .i64 (j : Int)) ?_
              simp only [puts]
              refine tW 23 85 (.pointer (some ⟨wb, j, none⟩)) ?_
              simp only [puts]
              refine tW 24 86 (.int .i64 y2) ?_
              simp only [puts]
              refine tW 25 87 (.bool false) ?_
              simp only [puts]
              refine tW 26 88 (.bool false) ?_
              simp only [puts]
              refine tW 27 89 (.bool false) ?_
              simp only [puts]
              refine tW 28 90 (.bool false) ?_
              simp only [puts]
              refine tW 29 91 (.agg #[.int .i64 10, .int .i64 T, .int .i64 M, .slice (some ⟨b3, 0, none⟩) Ex.length Ex.length, .slice (some ⟨b4, 0, none⟩) Exs.length Exs.length, .int .i64 (q : Int), .int .i64 (j : Int)]) ?_
              simp only [puts]
              refine tW 30 92 (.slice (some ⟨eb, 0, none⟩) ps.length ps.length) ?_
              simp only [puts]
              refine tW 31 93 (.int .i64 (k : Int)) ?_
              simp only [puts]
              refine tW 32 94 (.pointer (some ⟨eb, k, none⟩)) ?_
              simp only [puts]
              refine tW 33 95 (.int .i64 x) ?_
              simp only [puts]
              refine tW 34 96 (.slice (some ⟨wb, 0, none⟩) ps.length ps.length) ?_
              simp only [puts]
              refine wpAnyH_ready (rs := [35]) (by kernel_rfl) (by simp) ?_
              refine AllReadyH.cons rfl (fun Kx hK => ?_) AllReadyH.nil
              go_simp
              refine (unhide RX _ (by assumption)).mono ?_
              rintro e w2 ⟨rfl, hb2⟩
              refine hK.out _ _ (Std.call (by assumption) hb2) (fun hHeld2 => ?_)
              clear hK Kx
              refine tW 36 98 (.bool false) ?_
              simp only [puts]
              refine tW 37 99 (.bool false) ?_
              simp only [puts]
              refine wpAnyH_done (by kernel_rfl) ?_ _
              have HB := hide (bT (unhide HBw) hHeld2.2.2)
              have HC2 := hide ((unhide HCF).of hHeld2.2.2)
              clear HCF HBw
              go_wp2
              go_roundw
              case rel => exact ⟨k + 1, by omega, by go_num, unhide HNx, unhide HC2, unhide HB⟩
              case measure => simp [intOf]; omega
          · have hK1 : (K == 10) = false := beq_eq_false_iff_ne.2 hK10
            have HK10 := hide hK10
            clear hK10 HKd HRows
            obtain ⟨E2, hE2⟩ : ∃ E2, dB (ExsV ⟨K, T, M, Ex, Exs, L, R⟩ x (iw ts ps L.toNat) (iw ts ps R.toNat)) = E2 := ⟨_, rfl⟩
            rw [hE2] at RX0 HCd
            have RX := RX0
            clear hE2 RX0
            cases E2
            · have HNo := hide (unhide HBad (fun h => by have := ((unhide HCd).1 h).2.2; cases this))
              clear HBad HGood HCd
              go_upto_region 16 with fail
              clear c0 c1 c2 c3 c4 c5 c6
              generalize (wr.alloc (.cells #[.int .i64 K, .int .i64 T, .int .i64 M, .slice (some ⟨b3, 0, none⟩) Ex.length Ex.length, .slice (some ⟨b4, 0, none⟩) Exs.length Exs.length, .int .i64 L, .int .i64 R] 130)) = Wb at *
              generalize wr.heap.size = bx at *
              refine wp_region_held_drew (S := Std Wb) (by kernel_rfl) (Std.drew (Std.refl _)) (fun hHeld => ?_)
              refine tW 0 62 (.slice (some ⟨eb, 0, none⟩) ps.length ps.length) ?_
              simp only [puts]
              refine tW 1 63 (.int .i64 (k : Int)) ?_
              simp only [puts]
              refine tW 2 64 (.pointer (some ⟨eb, k, none⟩)) ?_
              simp only [puts]
              refine tW 3 65 (.int .i64 x) ?_
              simp only [puts]
              refine tW 4 66 (.slice (some ⟨wb, 0, none⟩) ps.length ps.length) ?_
              simp only [puts]
              refine tW 5 67 (.int .i64 (k : Int)) ?_
              simp only [puts]
              refine tW 6 68 (.pointer (some ⟨wb, k, none⟩)) ?_
              simp only [puts]
              refine tW 7 69 (.int .i64 y) ?_
              simp only [puts]
              refine tW 8 70 (.int .i64 (x + y)) ?_
              simp only [puts]
              refine tW 9 71 (.bool false) ?_
              simp only [puts]
              refine tW 10 72 (.bool false) ?_
              simp only [puts]
              refine tW 11 73 (.pointer (some ⟨bx, 0, none⟩)) ?_
              simp only [puts]
              refine tW 12 74 (.int .i64 K) ?_
              simp only [puts]
              refine tW 13 75 (.bool false) ?_
              simp only [puts]
              refine tW 14 76 (.bool false) ?_
              simp only [puts]
              refine tU 15 77 ?_
              simp only [puts]
              refine tU 16 78 ?_
              simp only [puts]
              refine tU 17 79 ?_
              simp only [puts]
              refine tU 18 80 ?_
              simp only [puts]
              refine tU 19 81 ?_
              simp only [puts]
              refine tU 20 82 ?_
              simp only [puts]
              refine tU 21 83 ?_
              simp only [puts]
              refine tU 22 84 ?_
              simp only [puts]
              refine tU 23 85 ?_
              simp only [puts]
              refine tU 24 86 ?_
              simp only [puts]
              refine tU 25 87 ?_
              simp only [puts]
              refine tW 26 88 (.bool false) ?_
              simp only [puts]
              refine tW 27 89 (.bool false) ?_
              simp only [puts]
              refine tW 28 90 (.bool false) ?_
              simp only [puts]
              refine tW 29 91 (.agg #[.int .i64 K, .int .i64 T, .int .i64 M, .slice (some ⟨b3, 0, none⟩) Ex.length Ex.length, .slice (some ⟨b4, 0, none⟩) Exs.length Exs.length, .int .i64 L, .int .i64 R]) ?_
              simp only [puts]
              refine tW 30 92 (.slice (some ⟨eb, 0, none⟩) ps.length ps.length) ?_
              simp only [puts]
              refine tW 31 93 (.int .i64 (k : Int)) ?_
              simp only [puts]
              refine tW 32 94 (.pointer (some ⟨eb, k, none⟩)) ?_
              simp only [puts]
              refine tW 33 95 (.int .i64 x) ?_
              simp only [puts]
              refine tW 34 96 (.slice (some ⟨wb, 0, none⟩) ps.length ps.length) ?_
              simp only [puts]
              refine wpAnyH_ready (rs := [35]) (by kernel_rfl) (by simp) ?_
              refine AllReadyH.cons rfl (fun Kx hK => ?_) AllReadyH.nil
              go_simp
              refine (unhide RX _ (by assumption)).mono ?_
              rintro e w2 ⟨rfl, hb2⟩
              refine hK.out _ _ (Std.call (by assumption) hb2) (fun hHeld2 => ?_)
              clear hK Kx
              refine tW 36 98 (.bool true) ?_
              simp only [puts]
              refine tW 37 99 (.bool true) ?_
              simp only [puts]
              refine wpAnyH_done (by kernel_rfl) ?_ _
              have HB := hide (bT (unhide HBw) hHeld2.2.2)
              clear HCF HBw
              go_wp2
              go_ret2
              exact ⟨Or.inr ⟨unhide HNo, rfl⟩, unhide HB⟩
            · have HNx := hide (unhide HGood ((unhide HCd).2 ⟨hA', fun h => absurd h (unhide HK10), by first | rfl | trivial⟩))
              clear HBad HGood HCd
              go_upto_region 16 with fail
              clear c0 c1 c2 c3 c4 c5 c6
              generalize (wr.alloc (.cells #[.int .i64 K, .int .i64 T, .int .i64 M, .slice (some ⟨b3, 0, none⟩) Ex.length Ex.length, .slice (some ⟨b4, 0, none⟩) Exs.length Exs.length, .int .i64 L, .int .i64 R] 130)) = Wb at *
              generalize wr.heap.size = bx at *
              refine wp_region_held_drew (S := Std Wb) (by kernel_rfl) (Std.drew (Std.refl _)) (fun hHeld => ?_)
              refine tW 0 62 (.slice (some ⟨eb, 0, none⟩) ps.length ps.length) ?_
              simp only [puts]
              refine tW 1 63 (.int .i64 (k : Int)) ?_
              simp only [puts]
              refine tW 2 64 (.pointer (some ⟨eb, k, none⟩)) ?_
              simp only [puts]
              refine tW 3 65 (.int .i64 x) ?_
              simp only [puts]
              refine tW 4 66 (.slice (some ⟨wb, 0, none⟩) ps.length ps.length) ?_
              simp only [puts]
              refine tW 5 67 (.int .i64 (k : Int)) ?_
              simp only [puts]
              refine tW 6 68 (.pointer (some ⟨wb, k, none⟩)) ?_
              simp only [puts]
              refine tW 7 69 (.int .i64 y) ?_
              simp only [puts]
              refine tW 8 70 (.int .i64 (x + y)) ?_
              simp only [puts]
              refine tW 9 71 (.bool false) ?_
              simp only [puts]
              refine tW 10 72 (.bool false) ?_
              simp only [puts]
              refine tW 11 73 (.pointer (some ⟨bx, 0, none⟩)) ?_
              simp only [puts]
              refine tW 12 74 (.int .i64 K) ?_
              simp only [puts]
              refine tW 13 75 (.bool false) ?_
              simp only [puts]
              refine tW 14 76 (.bool false) ?_
              simp only [puts]
              refine tU 15 77 ?_
              simp only [puts]
              refine tU 16 78 ?_
              simp only [puts]
              refine tU 17 79 ?_
              simp only [puts]
              refine tU 18 80 ?_
              simp only [puts]
              refine tU 19 81 ?_
              simp only [puts]
              refine tU 20 82 ?_
              simp only [puts]
              refine tU 21 83 ?_
              simp only [puts]
              refine tU 22 84 ?_
              simp only [puts]
              refine tU 23 85 ?_
              simp only [puts]
              refine tU 24 86 ?_
              simp only [puts]
              refine tU 25 87 ?_
              simp only [puts]
              refine tW 26 88 (.bool false) ?_
              simp only [puts]
              refine tW 27 89 (.bool false) ?_
              simp only [puts]
              refine tW 28 90 (.bool false) ?_
              simp only [puts]
              refine tW 29 91 (.agg #[.int .i64 K, .int .i64 T, .int .i64 M, .slice (some ⟨b3, 0, none⟩) Ex.length Ex.length, .slice (some ⟨b4, 0, none⟩) Exs.length Exs.length, .int .i64 L, .int .i64 R]) ?_
              simp only [puts]
              refine tW 30 92 (.slice (some ⟨eb, 0, none⟩) ps.length ps.length) ?_
              simp only [puts]
              refine tW 31 93 (.int .i64 (k : Int)) ?_
              simp only [puts]
              refine tW 32 94 (.pointer (some ⟨eb, k, none⟩)) ?_
              simp only [puts]
              refine tW 33 95 (.int .i64 x) ?_
              simp only [puts]
              refine tW 34 96 (.slice (some ⟨wb, 0, none⟩) ps.length ps.length) ?_
              simp only [puts]
              refine wpAnyH_ready (rs := [35]) (by kernel_rfl) (by simp) ?_
              refine AllReadyH.cons rfl (fun Kx hK => ?_) AllReadyH.nil
              go_simp
              refine (unhide RX _ (by assumption)).mono ?_
              rintro e w2 ⟨rfl, hb2⟩
              refine hK.out _ _ (Std.call (by assumption) hb2) (fun hHeld2 => ?_)
              clear hK Kx
              refine tW 36 98 (.bool false) ?_
              simp only [puts]
              refine tW 37 99 (.bool false) ?_
              simp only [puts]
              refine wpAnyH_done (by kernel_rfl) ?_ _
              have HB := hide (bT (unhide HBw) hHeld2.2.2)
              have HC2 := hide ((unhide HCF).of hHeld2.2.2)
              clear HCF HBw
              go_wp2
              go_roundw
              case rel => exact ⟨k + 1, by omega, by go_num, unhide HNx, unhide HC2, unhide HB⟩
              case measure => simp [intOf]; omega
        · obtain rfl : k = ps.length := by omega
          have HV := hide (planV_of (unhide HG) h2000 (unhide HHd) (fun i hi => unhide HW i hi hi))
          obtain ⟨_, fv, fvs, frow, fenv⟩ := C
          have HR := hide frow
          clear frow fenv HW HN HG HHd HBdG HFit HTP HTT HBd
          go_wp2
          go_ret2
          exact ⟨Or.inl ⟨unhide HV, wb, rfl, unhide HR⟩, hb⟩
end Go.Proofs.YtnchcndcinpalaaGreatDoor
