import Derived.Test.YtmcbmmpjhijagaaGreatDoorQ3
import Derived.Test.YtmcbmmpjhijagaaGreatDoorKindFns
import Derived.Test.YtmcbmmpjhijagaaGreatDoorQ33
import Derived.Test.YtmcbmmpjhijagaaGreatDoorQ32
namespace Go.Proofs.YtmcbmmpjhijagaaGreatDoor
open Go Go.RowKit
open Classical in
noncomputable def frm (ns : List Nd) (i : Nat) : Int := if h : ∃ f, Seg ns f i (kidsAt ns i) then ((Classical.choose h : Nat) : Int) else -1
theorem frm_some {ns : List Nd} {f i : Nat} (h : Seg ns f i (kidsAt ns i)) : frm ns i = (f : Int) := by
  unfold frm
  rw [dif_pos ⟨f, h⟩]
  have := h.uniqL _ (Classical.choose_spec (⟨f, h⟩ : ∃ f, Seg ns f i (kidsAt ns i)))
  rw [this]
theorem frm_none {ns : List Nd} {i : Nat} (h : ∀ f, ¬ Seg ns f i (kidsAt ns i)) : frm ns i = -1 := by
  unfold frm
  rw [dif_neg (fun ⟨f, hf⟩ => h f hf)]
theorem frm_cases (ns : List Nd) (i : Nat) : (frm ns i = -1 ∧ ∀ f, ¬ Seg ns f i (kidsAt ns i)) ∨ ∃ f : Nat, frm ns i = (f : Int) ∧ Seg ns f i (kidsAt ns i) := by
  by_cases h : ∃ f, Seg ns f i (kidsAt ns i)
  · obtain ⟨f, hf⟩ := h
    exact Or.inr ⟨f, frm_some hf, hf⟩
  · have h' : ∀ f, ¬ Seg ns f i (kidsAt ns i) := fun f hf => h ⟨f, hf⟩
    exact Or.inl ⟨frm_none h', h'⟩
theorem Seg.mid {ns : List Nd} {f i a m : Nat} {ks : List Int} (h : Seg ns f i ks) (hm : m < ks.length) (ha : Seg ns a i (ks.drop (m + 1))) : ∃ p c, a = p + 1 ∧ ks[m] = (p : Int) ∧ Seg ns c p (kidsAt ns p) := by
  rw [← List.take_append_drop (m + 1) ks] at h
  obtain ⟨c, h1, h2⟩ := h.split'
  obtain rfl := ha.uniqL _ h2
  rw [take_snocN ks m hm] at h1
  obtain ⟨p, c', e1, e2, _, h4⟩ := h1.inv
  exact ⟨p, c', e1, e2, h4⟩
set_option maxHeartbeats 2000000 in
theorem from_calls (ns : List Nd) (g cap : Nat) (hb1 : ns.length ≤ 1048576) (hkb : ∀ n ∈ ns, n.Kids.length ≤ 1048576) : ∀ (n i : Nat), i < n → i < ns.length → ∀ (w : World), g < w.heap.size → NodesAt w g 0 ns →
    Calls Tryz.prog 19 #[.slice (some ⟨g, 0, none⟩) ns.length cap, .int .i64 (i : Int)] w fun e w' => e = .returned (.int .i64 (frm ns i)) ∧ w' = w := by
  intro n
  induction n with
  | zero => intro i hi; omega
  | succ n ih =>
    intro i hin hi w hg hn
    obtain ⟨_, kg, c5, _, hkg, hks⟩ := hn.at i hi
    have hkl : (ns[i]).Kids.length ≤ 1048576 := hkb _ (List.getElem_mem hi)
    have hka : kidsAt ns i = (ns[i]).Kids := kidsAt_some (List.getElem?_eq_getElem hi)
    have IH := fun (p : Nat) (hp : p < i) => ih p (by omega) (by omega) w hg hn
    have HC := hide (frm_cases ns i)
    have hsome := fun (f : Nat) (h : Seg ns f i (ns[i]).Kids) => frm_some (ns := ns) (f := f) (i := i) (by rw [hka]; exact h)
    have hnone := fun (h : ∀ f, ¬ Seg ns f i (ns[i]).Kids) => frm_none (ns := ns) (i := i) (by rw [hka]; exact h)
    generalize (ns[i]).Kids = ks at *
    have HI := hide IH; have H1 := hide hsome; have H2 := hide hnone; have HS := hide hks
    clear ih IH hsome hnone hks hn hka
    simp only [Nat.zero_add] at c5
    have j0 : (i : Int) < (ns.length : Int) := by omega
    go_enter Tryz.func19, Tryz.ntmps19
    go_wp2
    go_loopw [5, 7, 8] (fun nx c _ wr => ∃ (m a : Nat) (nv cv : Int), m ≤ ks.length ∧ a ≤ i ∧ nx = .int .i64 nv ∧ c = .int .i64 cv ∧ nv = (a : Int) - 1 ∧ cv = (m : Int) - 1 ∧ Seg ns a i (ks.drop m) ∧ wr = w) (fun _ c _ _ => (intOf c + 1).toNat)
    case atStart => exact ⟨ks.length, i, _, _, Nat.le_refl _, Nat.le_refl _, rfl, rfl, by omega, by omega, by rw [List.drop_length]; exact Seg.nil i, rfl⟩
    case round =>
      obtain ⟨m, a, nv, cv, hm, ha, rfl, rfl, hnv, hcv, hseg, rfl⟩ := hrel
      have HG := hide hseg
      clear hseg
      have Hnv := hide hnv; have Hcv := hide hcv
      cases m with
      | zero =>
        have e0 : ¬ 0 ≤ cv := by omega
        have HE : Hid (frm ns i = nv + 1) := by
          show _ = _
          rw [unhide H1 a (by simpa using unhide HG), hnv]; omega
        clear hnv hcv
        have b1 : -1 ≤ nv := by have := unhide Hnv; omega
        have b2 : nv ≤ 1048576 := by have := unhide Hnv; omega
        clear Hnv Hcv
        go_wp2
        go_ret
        exact ⟨congrArg (fun z => Ending.returned (.int .i64 z)) HE.out.symm, rfl⟩
      | succ m =>
        have hlt : m < ks.length := by omega
        obtain rfl : cv = (m : Int) := by omega
        have x0 := (unhide HS).at m hlt
        simp only [Nat.zero_add] at x0
        have hmid := fun (f : Nat) (h : Seg ns f i ks) => h.mid hlt (unhide HG)
        have hgo : ∀ (p f : Nat), a = p + 1 → ks[m] = (p : Int) → Seg ns f p (kidsAt ns p) → Seg ns f i (ks.drop m) := fun p f h1 h2 h3 => by
          rw [List.drop_eq_getElem_cons hlt, h2]
          have := h3.one.join (h1 ▸ unhide HG)
          simpa using this
        have Hmid := hide hmid; have Hgo := hide hgo
        clear hmid hgo
        generalize ks[m] = x at *
        cases a with
        | zero =>
          have e1 : nv < 0 := by omega
          have HE : Hid (frm ns i = -1) := unhide H2 (fun f hf => by obtain ⟨p, c, e, _⟩ := unhide Hmid f hf; omega)
          clear hnv hcv
          go_wp2
          go_ret
          exact ⟨congrArg (fun z => Ending.returned (.int .i64 z)) HE.out.symm, rfl⟩
        | succ p =>
          obtain rfl : nv = (p : Int) := by omega
          have e1 : ¬ (p : Int) < 0 := by omega
          by_cases hx : x = (p : Int)
          · have hx' : (x != (p : Int)) = false := by simp [hx]
            have HX := hide hx
            clear hx
            have IHp := unhide HI p (by omega)
            rcases frm_cases ns p with ⟨hf, hno⟩ | ⟨f, hf, hseg⟩
            · rw [hf] at IHp
              have HIp := hide IHp
              have HE : Hid (frm ns i = -1) := unhide H2 (fun f hf => by
                obtain ⟨p', c, e, _, hs⟩ := unhide Hmid f hf
                obtain rfl : p' = p := by omega
                exact hno c hs)
              clear hnv hcv IHp hf hno
              go_wp2_with fail
              refine (unhide HIp).mono ?_; rintro e w1 ⟨rfl, rfl⟩
              go_wp2
              go_ret
              exact ⟨congrArg (fun z => Ending.returned (.int .i64 z)) HE.out.symm, rfl⟩
            · rw [hf] at IHp
              have HIp := hide IHp
              have hfp : f ≤ p := hseg.le
              have HE : Hid (Seg ns f i (ks.drop m)) := unhide Hgo p f rfl (unhide HX) hseg
              clear hnv hcv IHp hf hseg
              go_wp2_with fail
              refine (unhide HIp).mono ?_; rintro e w1 ⟨rfl, rfl⟩
              go_wp2
              go_roundw
              case rel => exact ⟨m, f, _, _, by omega, by omega, rfl, rfl, by first | rfl | omega, by first | rfl | omega, HE.out, by first | rfl | trivial⟩
              case measure => simp [intOf]
          · have hx' : (x != (p : Int)) = true := by simp [hx]
            have HE : Hid (frm ns i = -1) := unhide H2 (fun f hf => by
              obtain ⟨p', c, e, e2, _⟩ := unhide Hmid f hf
              exact hx (by omega))
            clear hnv hcv hx
            go_wp2
            go_ret
            exact ⟨congrArg (fun z => Ending.returned (.int .i64 z)) HE.out.symm, rfl⟩
end Go.Proofs.YtmcbmmpjhijagaaGreatDoor
namespace Go.Proofs.YtmcbmmpjhijagaaGreatDoor
open Go Go.RowKit
def Small (ns : List Nd) : Prop := ∀ n ∈ ns, n.S.size ≤ 1048576 ∧ n.T.size ≤ 1048576 ∧ n.Kids.length ≤ 1048576
theorem seg_whole {ns : List Nd} (h : 1 ≤ ns.length) : Seg ns 0 ns.length [((ns.length - 1 : Nat) : Int)] ↔ frm ns (ns.length - 1) = 0 := by
  constructor
  · intro hs
    obtain ⟨p, c, e1, e2, h1, h2⟩ := Seg.inv (ks := []) (by simpa using hs)
    obtain rfl := h1.nil_inv
    obtain rfl : p = ns.length - 1 := by omega
    exact frm_some h2
  · intro hf
    rcases frm_cases ns (ns.length - 1) with ⟨h1, _⟩ | ⟨f, h1, h2⟩
    · omega
    · obtain rfl : f = 0 := by omega
      have := h2.one
      rwa [show ns.length - 1 + 1 = ns.length by omega] at this
theorem seg_ordered {ns : List Nd} (h : Seg ns 0 ns.length [((ns.length - 1 : Nat) : Int)]) : Ordered ns := fun i hi x hx => by
  obtain ⟨c, hc⟩ := h.each i (by omega) hi
  obtain ⟨p, e, _, hp⟩ := hc.kid x hx
  exact ⟨p, e, hp⟩
theorem seg_kids {ns : List Nd} (h : Seg ns 0 ns.length [((ns.length - 1 : Nat) : Int)]) (hb : ns.length ≤ 10000) (i : Nat) (hi : i < ns.length) : KidsIn ns (ns[i]).Kids ∧ (ns[i]).Kids.length ≤ 10000 := by
  obtain ⟨c, hc⟩ := h.each i (by omega) hi
  rw [kidsAt_some (List.getElem?_eq_getElem hi)] at hc
  refine ⟨fun x hx => ?_, by have := hc.len; omega⟩
  obtain ⟨p, e, _, hp⟩ := hc.kid x hx
  omega
set_option maxHeartbeats 4000000 in
theorem sAstOk_of (ns : List Nd) (g cap : Nat) (w : World) (hg : g < w.heap.size) (hn : NodesAt w g 0 ns) (hb0 : ns.length ≤ 1048576) (hsm : Small ns)
    (hNC : ns.length ≤ 10000 → Seg ns 0 ns.length [((ns.length - 1 : Nat) : Int)] → ∀ (i : Nat) (hi : i < ns.length) (W : World), Below w.heap.size w W →
      Calls Tryz.prog 20 #[.slice (some ⟨g, 0, none⟩) ns.length cap, .int .i64 (i : Int)] W fun e w' => e = .returned (.bool (dB (FitS ns[i] (kindsOf ns (ns[i]).Kids)))) ∧ Below W.heap.size W w') :
    Calls Tryz.prog 10 #[.agg #[.slice (some ⟨g, 0, none⟩) ns.length cap]] w fun e w' => e = .returned (.bool (dB (SV ns))) ∧ Below w.heap.size w w' := by
  by_cases h1 : (ns.length : Int) < 1
  · have HE : Hid (dB (SV ns) = false) := dB_false (fun h => by have := h.lo; omega)
    clear hn hsm hNC
    go_enter Tryz.func10, Tryz.ntmps10
    go_wp2
    go_ret
    exact ⟨congrArg (fun z => Ending.returned (.bool z)) HE.out.symm, bA (Below.refl _ _) _⟩
  by_cases h2 : (10000 : Int) < (ns.length : Int)
  · have HE : Hid (dB (SV ns) = false) := dB_false (fun h => by have := h.hi; omega)
    clear hn hsm hNC
    go_enter Tryz.func10, Tryz.ntmps10
    go_wp2
    go_ret
    exact ⟨congrArg (fun z => Ending.returned (.bool z)) HE.out.symm, bA (Below.refl _ _) _⟩
  obtain ⟨L, hL⟩ : ∃ L, ns.length = L + 1 := ⟨ns.length - 1, by omega⟩
  have FC := fun W (hb : Below w.heap.size w W) => from_calls ns g cap hb0 (fun n hn => (hsm n hn).2.2) ns.length L (by omega) (by omega) W (Nat.lt_of_lt_of_le hg hb.size) (hn.of hg hb)
  have hsw := seg_whole (ns := ns) (by omega)
  have hsL : ns.length - 1 = L := by omega
  have hb1 : ns.length ≤ 10000 := by omega
  have hLb : L ≤ 10000 := by omega
  cases h3 : (frm ns L != 0)
  · have hf : frm ns L = 0 := by simpa using h3
    rw [hf] at FC
    have hseg : Seg ns 0 ns.length [((ns.length - 1 : Nat) : Int)] := hsw.2 (by rw [hsL]; exact hf)
    have NC := hNC hb1 hseg
    have DC := fun W (hb : Below w.heap.size w W) => depths_calls ns g cap W (Nat.lt_of_lt_of_le hg hb.size) (hn.of hg hb) hb1 (fun n hn => (hsm n hn).2.2) (seg_ordered hseg)
    have hfit : ∀ (i : Nat) (hi : i < ns.length), SV ns → FitS ns[i] (kindsOf ns (ns[i]).Kids) := fun i hi h => h.fit i _ (List.getElem?_eq_getElem hi)
    have hall : (∀ (i : Nat) (hi : i < ns.length), FitS ns[i] (kindsOf ns (ns[i]).Kids)) → (SV ns ↔ (quB (kindAt ns L) = true ∧ dep ns L ≤ 200)) := fun h => by
      constructor
      · intro hs; exact ⟨by rw [← hsL]; exact hs.top, by rw [← hsL]; exact hs.deep⟩
      · intro hs
        refine ⟨by omega, hb1, hseg, fun i n hn => ?_, by rw [hsL]; exact hs.1, by rw [hsL]; exact hs.2⟩
        obtain ⟨hi, rfl⟩ := List.getElem?_eq_some_iff.1 hn
        exact h i hi
    have hdl := depTo_length ns ns.length
    have hdg := depTo_get ns ns.length L (by omega)
    have hkL : ∀ h : L < ns.length, kindAt ns L = (ns[L]'h).K := fun h => kindAt_some (List.getElem?_eq_getElem h)
    have HFC := hide FC; have HNC := hide NC; have HDC := hide DC; have HN := hide hn; have HFit := hide hfit; have HAll := hide hall; have HDL := hide hdl; have HDG := hide hdg; have HKL := hide hkL
    clear FC NC DC hn hsm hsw h3 hf hseg hfit hall hNC hdl hdg hkL hsL
    go_enter Tryz.func10, Tryz.ntmps10
    have e1 : ((ns.length : Int) - 1) = (L : Int) := by omega
    have HL := hide hL
    clear hL
    go_wp2_with fail
    refine (unhide HFC _ (bA (Below.refl _ _) _)).mono ?_; rintro e w1 ⟨rfl, rfl⟩
    go_wp2
    go_loopw [4] (fun c wr => ∃ k : Nat, k ≤ ns.length ∧ c = .int .i64 k ∧ (∀ (i : Nat) (hi : i < ns.length), i < k → FitS ns[i] (kindsOf ns (ns[i]).Kids)) ∧ Below w.heap.size w wr) (fun c _ => ns.length - (intOf c).toNat)
    case atStart => exact ⟨0, Nat.zero_le _, rfl, fun i hi h => by omega, bA (Below.refl _ _) _⟩
    case round =>
      obtain ⟨k, hk, rfl, hw, hb⟩ := hrel
      have HW := hide hw
      clear hw
      by_cases hlt : k < ns.length
      · have j1 : (k : Int) < (ns.length : Int) := by omega
        have nc := unhide HNC k hlt wr hb
        have hnext : FitS ns[k] (kindsOf ns (ns[k]).Kids) → ∀ (i : Nat) (hi : i < ns.length), i < k + 1 → FitS ns[i] (kindsOf ns (ns[i]).Kids) := fun h i hi hik => by
          by_cases e : i = k
          · subst e; exact h
          · exact unhide HW i hi (by omega)
        have hbad : ¬ FitS ns[k] (kindsOf ns (ns[k]).Kids) → dB (SV ns) = false := fun h => dB_false (fun hs => h (unhide HFit k hlt hs))
        rcases Classical.em (FitS ns[k] (kindsOf ns (ns[k]).Kids)) with hf | hf
        · have hN := hnext hf
          rw [dB_true hf] at nc
          have Hnc := hide nc; have HNx := hide hN
          clear nc hN hnext hbad hf
          go_wp2_with fail
          refine (unhide Hnc).mono ?_; rintro e w1 ⟨rfl, hb1⟩
          go_wp2
          go_roundw
          case rel => exact ⟨k + 1, by omega, by go_num, unhide HNx, bT hb hb1⟩
          case measure => simp [intOf]; omega
        · have hB := hbad hf
          rw [dB_false hf] at nc
          have Hnc := hide nc; have HB := hide hB
          clear nc hB hnext hbad hf
          go_wp2_with fail
          refine (unhide Hnc).mono ?_; rintro e w1 ⟨rfl, hb1⟩
          go_wp2
          go_ret
          exact ⟨congrArg (fun z => Ending.returned (.bool z)) (unhide HB).symm, bT hb hb1⟩
      · obtain rfl : k = ns.length := by omega
        have hiff := unhide HAll (fun i hi => unhide HW i hi hi)
        go_wp2_with fail
        refine (unhide HDC wr hb).mono ?_; rintro e w1 ⟨g', cap', rfl, hO, hb1⟩
        have d1 := bT hb hb1
        have hLn : L < ns.length := by have := unhide HL; omega
        obtain ⟨⟨c0, _, _, _, _⟩, _⟩ := ((unhide HN).of hg d1).at L hLn
        have q1 : g < w1.heap.size := Nat.lt_of_lt_of_le hg d1.size
        have hdL : L < (depTo ns ns.length).length := by rw [unhide HDL]; exact hLn
        have x0 := hO.row.at L hdL
        have hv : (depTo ns ns.length)[L] = dep ns L := by
          have := unhide HDG
          rw [List.getD_eq_getElem?_getD, List.getElem?_eq_getElem hdL] at this
          exact this
        rw [hv] at x0
        simp only [Nat.zero_add] at c0 x0
        rw [← unhide HKL hLn] at c0
        have QC := fun w => sIsQuery_calls (kindAt ns L) w
        have hOl := hO.lt
        generalize kindAt ns L = K at *
        generalize dep ns L = dv at *
        generalize quB K = b at *
        have HQ := hide QC; have HI := hide hiff
        have jL : (L : Int) < (ns.length : Int) := by omega
        clear QC hiff hO hv
        cases b
        · have HE : Hid (dB (SV ns) = false) := dB_false (fun h => by have := ((unhide HI).1 h).1; cases this)
          clear HI
          go_wp2_with fail
          refine (unhide HQ _).mono ?_; rintro e w2 ⟨rfl, rfl⟩
          go_wp2
          go_ret
          exact ⟨congrArg (fun z => Ending.returned (.bool z)) HE.out.symm, d1⟩
        · have HE : Hid (dB (SV ns) = decide (dv ≤ 200)) := by
            show _ = _
            rw [Bool.eq_iff_iff, dB_iff, decide_eq_true_eq]
            exact ⟨fun h => ((unhide HI).1 h).2, fun h => (unhide HI).2 ⟨rfl, h⟩⟩
          clear HI
          go_wp2_with fail
          refine (unhide HQ _).mono ?_; rintro e w2 ⟨rfl, rfl⟩
          go_wp2
          go_ret
          exact ⟨congrArg (fun z => Ending.returned (.bool z)) HE.out.symm, d1⟩
  · have hf : frm ns L ≠ 0 := by simpa using h3
    have HE : Hid (dB (SV ns) = false) := dB_false (fun h => hf (by have := hsw.1 h.seg; rw [hsL] at this; exact this))
    generalize frm ns L = z at *
    have HFC := hide FC
    have HL := hide hL
    have e1 : ((ns.length : Int) - 1) = (L : Int) := by omega
    clear FC hn hsm hsw hNC hf hL hsL
    go_enter Tryz.func10, Tryz.ntmps10
    go_wp2_with fail
    refine (unhide HFC _ (bA (Below.refl _ _) _)).mono ?_; rintro e w1 ⟨rfl, rfl⟩
    go_wp2
    go_ret
    exact ⟨congrArg (fun z => Ending.returned (.bool z)) HE.out.symm, bA (Below.refl _ _) _⟩
end Go.Proofs.YtmcbmmpjhijagaaGreatDoor
