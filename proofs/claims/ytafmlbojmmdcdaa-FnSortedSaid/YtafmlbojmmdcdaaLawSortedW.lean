import Derived.Test.YtafmlbojmmdcdaaLawSortedG
namespace Go.Proofs.Ytafmlbojmmdcdaa
open Go Go.RowKit
theorem IsBytes.slice {w : World} {v : Value} {cs : List Nat} (h : IsBytes w v cs) : ∃ a cap, v = .slice a cs.length cap := by
  rcases h with ⟨rfl, a, cap, rfl⟩ | ⟨g, off, cap, rfl, _⟩
  · exact ⟨a, cap, rfl⟩
  · exact ⟨_, cap, rfl⟩
set_option maxRecDepth 100000 in
set_option maxHeartbeats 4000000 in
theorem lawSorted_calls (v : Value) (cs : List Nat) (w : World) (hv : IsBytes w v cs) (hl : (∀ b ∈ cs, b ≤ 255) ∧ cs.length ≤ maxLen) :
    Calls Try.prog 3 #[v] w fun e w' => e = .returned (.bool true) ∧ Below w.heap.size w w' := by
  obtain ⟨a, cap, rfl⟩ := hv.slice
  by_cases c1 : (1048576 : Int) < (cs.length : Int)
  · clear hv hl
    go_enter Try.func3, Try.ntmps3
    go_wp2
    go_ret
    exact ⟨rfl, Below.refl _ _⟩
  have hD1 := fun w h => DrawSortRows_calls (.slice a cs.length cap) cs w h hl.1 (by omega)
  have hn := dSort_length cs
  have hw3 := dSort_wide cs
  generalize dSort cs = D at *
  obtain ⟨n, hnD⟩ : ∃ n, n = D.length := ⟨_, rfl⟩
  rw [← hnD] at hD1 hn
  have hwd : ∀ x ∈ D, x.length ≤ 1000 := fun x hx => by have := hw3 x hx; omega
  obtain ⟨E, hE⟩ : ∃ E, srt D = E := ⟨_, rfl⟩
  have hEl : n = E.length := by rw [← hE, srt_length]; exact hnD
  have hEw : ∀ x ∈ E, x.length ≤ 1000 := by rw [← hE]; exact srt_wide hwd
  have hEu : Upw E := by rw [← hE]; exact srt_ord D
  have hEa : ∀ y, alike E y = alike D y := fun y => by rw [← hE]; exact srt_alike D y
  have hEE : srt E = E := by rw [← hE]; exact srt_srt D
  have hER : srt D.reverse = E := by rw [← hE]; exact srt_same (List.reverse_perm D)
  have hn1 : n ≤ 1000 := by omega
  have HD1 := hide hD1; have HND := hide hnD; have HWD := hide hwd; have HE := hide hE; have HEL := hide hEl; have HEW := hide hEw; have HEU := hide hEu; have HEA := hide hEa; have HEE := hide hEE; have HER := hide hER; have HV := hide hv
  clear hD1 hnD hwd hE hEl hEw hEu hEa hEE hER hv hl hw3
  have e0 : ((n : Int) != (n : Int)) = false := by simp
  go_enter Try.func3, Try.ntmps3
  go_wp2_with fail
  refine (unhide HD1 _ (unhide HV)).mono ?_; rintro e w1 ⟨Gr, cr, rs, rfl, ho1, hr1, hv1, hb1⟩
  have HG1 := hide (show GS w1 Gr cr rs D from ⟨ho1.lt.1, ho1.grid, hr1, hv1⟩)
  clear ho1 hr1 hv1
  go_wp2_with fail
  refine (unhide HD1 _ ((unhide HV).of hb1)).mono ?_; rintro e w2 ⟨Gt, ct, ts, rfl, ho2, hr2, hv2, hb2⟩
  have HG2 := hide (show GS w2 Gt ct ts D from ⟨ho2.lt.1, ho2.grid, hr2, hv2⟩)
  have HG1' := hide ((unhide HG1).of hb2)
  have d2 := bT hb1 hb2
  clear ho2 hr2 hv2 HG1 hb1 hb2 HD1 HV
  have SC := gSort D E n (unhide HND) (unhide HE) hn1 (unhide HWD) w2 Gt ct ts (unhide HG2)
  have HSC := hide SC
  clear SC HG2
  go_wp2_with fail
  refine (unhide HSC).mono ?_; rintro e w3 ⟨Gs, cz, qs, rfl, hs3, hb3⟩
  have HGR := hide ((unhide HG1').of hb3)
  have HGS := hide hs3
  have d3 := bT d2 hb3
  clear HSC HG1' hs3 hb3 d2
  go_wp2
  go_loopw [5] (fun c wr => ∃ k : Nat, k ≤ n ∧ c = .int .i64 k ∧ GS wr Gr cr rs D ∧ GS wr Gs cz qs E ∧ Below w.heap.size w wr) (fun c _ => n - (intOf c).toNat)
  case atStart => exact ⟨0, Nat.zero_le _, rfl, unhide HGR, unhide HGS, d3⟩
  case round =>
    clear HGR HGS d3
    obtain ⟨k, hk, rfl, hgr, hgs, hb⟩ := hrel
    by_cases hlt : k < n
    · have kD : k < D.length := by rw [← unhide HND]; exact hlt
      have kE : k < E.length := by rw [← unhide HEL]; exact hlt
      obtain ⟨g1, c1, x1, o1, l1⟩ := gAt hgr k kD
      have hy := unhide HWD _ (List.getElem_mem kD)
      generalize D[k] = y at *
      have HC1 : Hid (∀ W, Std wr W → Calls Try.prog 6 #[.slice (some ⟨Gs, 0, none⟩) n cz, .slice (some ⟨g1, 0, none⟩) y.length c1] W fun e w' => e = .returned (.int .i64 ((alike D y : Nat) : Int)) ∧ Below W.heap.size W w') :=
        fun W h => gCount E n (unhide HEL) hn1 (unhide HEW) y hy _ (unhide HEA y) W Gs cz g1 c1 qs (hgs.of h.2.2) ⟨o1.of h.2.2, l1⟩
      have HC2 : Hid (∀ W, Std wr W → Calls Try.prog 6 #[.slice (some ⟨Gr, 0, none⟩) n cr, .slice (some ⟨g1, 0, none⟩) y.length c1] W fun e w' => e = .returned (.int .i64 ((alike D y : Nat) : Int)) ∧ Below W.heap.size W w') :=
        fun W h => gCount D n (unhide HND) hn1 (unhide HWD) y hy _ rfl W Gr cr g1 c1 rs (hgr.of h.2.2) ⟨o1.of h.2.2, l1⟩
      have e1 : (((alike D y : Nat) : Int) != ((alike D y : Nat) : Int)) = false := by simp
      generalize alike D y = A at *
      have j1 : (k : Int) < (n : Int) := by omega
      have q1 := hgr.size
      have q2 := hgs.size
      have HGR := hide hgr
      have HGS := hide hgs
      clear hgr hgs o1 l1 hy
      go_upto_region 10 with fail
      have h1 := Below.refl wr.heap.size wr
      have h2 := h1
      go_region_held3 (Std wr) (repeat (first | with_reducible assumption | with_reducible exact Std.refl _ | with_reducible refine Std.drew ?_ | with_reducible refine Std.alloc ?_ _ | with_reducible refine Std.setCell ?_ ?_ _ | with_reducible refine Std.call ?_ (by with_reducible assumption) | (simp <;> omega) | omega)) (first | (go_at_call_of 6 Gs; refine (unhide HC1 _ (by assumption)).mono ?_; rintro e w1 ⟨rfl, hb⟩; (first | have n3 := bT h2 hb | have n3 := bT (bA h2 _) hb | have n3 := bT (Below.drew h2) hb | have n3 := bT (Below.drew (bA h2 _)) hb | have n3 := bT (bA (Below.drew h2) _) hb); (first | have n2 := bT h1 hb | have n2 := bT (bA h1 _) hb | have n2 := bT (Below.drew h1) hb | have n2 := bT (Below.drew (bA h1 _)) hb | have n2 := bT (bA (Below.drew h1) _) hb); obtain ⟨c1, f1⟩ := bcell hb; obtain ⟨c2, f2⟩ := bcell n2; obtain ⟨c3, f3⟩ := bcell n3; have hs := hb.size; (try simp at hs); clear h1 h2; have h1 := hb; have h2 := n2; clear n2 hb) | (go_at_call_of 6 Gr; refine (unhide HC2 _ (by assumption)).mono ?_; rintro e w1 ⟨rfl, hb⟩; (first | have n3 := bT h2 hb | have n3 := bT (bA h2 _) hb | have n3 := bT (Below.drew h2) hb | have n3 := bT (Below.drew (bA h2 _)) hb | have n3 := bT (bA (Below.drew h2) _) hb); (first | have n2 := bT h1 hb | have n2 := bT (bA h1 _) hb | have n2 := bT (Below.drew h1) hb | have n2 := bT (Below.drew (bA h1 _)) hb | have n2 := bT (bA (Below.drew h1) _) hb); obtain ⟨c1, f1⟩ := bcell hb; obtain ⟨c2, f2⟩ := bcell n2; obtain ⟨c3, f3⟩ := bcell n3; have hs := hb.size; (try simp at hs); clear h1 h2; have h1 := hb; have h2 := n2; clear n2 hb))
      have d2 := bT hb n3
      have HGR1 := hide ((unhide HGR).of n3)
      have HGS1 := hide ((unhide HGS).of n3)
      have HCW : Hid (∀ o, wr.cell? ⟨Gs, o, none⟩ = w1.cell? ⟨Gs, o, none⟩) := fun o => (n3.cell (p := ⟨Gs, o, none⟩) q2).symm
      clear HC1 HC2 HGR HGS h1 h2 n3 hb x1 q1 q2 e1
      by_cases hk0 : k = 0
      · subst hk0
        go_wp2_with fail
        go_quiet (fail)
        go_wp2
        go_roundw
        case rel => exact ⟨1, by omega, by go_num, (unhide HGR1).of (below_drewN (Below.refl _ _) _), (unhide HGS1).of (below_drewN (Below.refl _ _) _), below_drewN d2 _⟩
        case measure => simp [intOf]; omega
      · obtain ⟨m, hm⟩ : ∃ m, k = m + 1 := ⟨k - 1, by omega⟩
        have mE : m < E.length := by omega
        obtain ⟨ga, ca, xa, oa, la⟩ := gAt (unhide HGS1) m mE
        obtain ⟨gb, cb, xb, ob, lb⟩ := gAt (unhide HGS1) k kE
        have hya := unhide HEW _ (List.getElem_mem mE)
        have hyb := unhide HEW _ (List.getElem_mem kE)
        have hle : rcmp E[m] E[k] ≤ 0 := List.pairwise_iff_getElem.1 (unhide HEU) m k mE kE (by omega)
        generalize E[m] = ya at *
        generalize E[k] = yb at *
        have xa' := (unhide HCW m).trans xa
        have xb' := (unhide HCW k).trans xb
        have HC3 : Hid (∀ W, Std w1 W → Calls Try.prog 7 #[.slice (some ⟨ga, 0, none⟩) ya.length ca, .slice (some ⟨gb, 0, none⟩) yb.length cb] W fun e w' => e = .returned (.int .i64 (rcmp ya yb)) ∧ Below W.heap.size W w') :=
          fun W h => RowCmp_calls ya yb ga 0 ca gb 0 cb W (oa.of h.2.2).size (ob.of h.2.2).size (oa.of h.2.2).held (ob.of h.2.2).held (by omega) (by omega)
        have HC4 : Hid (∀ W, Std w1 W → Calls Try.prog 8 #[.slice (some ⟨ga, 0, none⟩) ya.length ca, .slice (some ⟨gb, 0, none⟩) yb.length cb] W fun e w' => e = .returned (.int .i64 (rcmp ya yb)) ∧ Below W.heap.size W w') :=
          fun W h => sRowCmp_calls ya yb ga 0 ca gb 0 cb W (oa.of h.2.2).size (ob.of h.2.2).size (oa.of h.2.2).held (ob.of h.2.2).held la lb (by omega) (by omega)
        generalize rcmp ya yb = z at *
        have z1 : ¬ (0 : Int) < z := by omega
        have z2 : decide ((0 : Int) < z) = false := by simp; omega
        have v1 : IntKind.i64.wrap (m : Int) = m := wrap_small _ (by omega) (by omega)
        have v3 : (k : Int) - 1 = (m : Int) := by omega
        have v2 : IntKind.i64.wrap ((k : Int) - 1) = m := by rw [v3]; exact v1
        have i1 : (m : Int) < (n : Int) := by omega
        have i3 : (0 : Int) < (k : Int) := by omega
        have i6 : 0 < k := by omega
        have HM : Hid (k = m + 1) := hm
        have HKN : Hid (k < n) := hlt
        have q1 := (unhide HGR1).size
        have q2 := (unhide HGS1).size
        rename World => wt
        clear oa ob la lb hya hyb HCW hle mE kD kE hm hk0
        go_upto_region 12 with fail
        have h1 := Below.refl wt.heap.size wt
        have h2 := h1
        go_region_held3 (Std wt) (repeat (first | with_reducible assumption | with_reducible exact Std.refl _ | with_reducible refine Std.drew ?_ | with_reducible refine Std.alloc ?_ _ | with_reducible refine Std.setCell ?_ ?_ _ | with_reducible refine Std.call ?_ (by with_reducible assumption) | (simp <;> omega) | omega)) (first | (go_at_call 7; refine (unhide HC3 _ (by assumption)).mono ?_; rintro e w1 ⟨rfl, hb⟩; (first | have n3 := bT h2 hb | have n3 := bT (bA h2 _) hb | have n3 := bT (Below.drew h2) hb | have n3 := bT (Below.drew (bA h2 _)) hb | have n3 := bT (bA (Below.drew h2) _) hb); (first | have n2 := bT h1 hb | have n2 := bT (bA h1 _) hb | have n2 := bT (Below.drew h1) hb | have n2 := bT (Below.drew (bA h1 _)) hb | have n2 := bT (bA (Below.drew h1) _) hb); obtain ⟨c1, f1⟩ := bcell hb; obtain ⟨c2, f2⟩ := bcell n2; obtain ⟨c3, f3⟩ := bcell n3; have hs := hb.size; (try simp at hs); clear h1 h2; have h1 := hb; have h2 := n2; clear n2 hb) | (go_at_call 8; refine (unhide HC4 _ (by assumption)).mono ?_; rintro e w1 ⟨rfl, hb⟩; (first | have n3 := bT h2 hb | have n3 := bT (bA h2 _) hb | have n3 := bT (Below.drew h2) hb | have n3 := bT (Below.drew (bA h2 _)) hb | have n3 := bT (bA (Below.drew h2) _) hb); (first | have n2 := bT h1 hb | have n2 := bT (bA h1 _) hb | have n2 := bT (Below.drew h1) hb | have n2 := bT (Below.drew (bA h1 _)) hb | have n2 := bT (bA (Below.drew h1) _) hb); obtain ⟨c1, f1⟩ := bcell hb; obtain ⟨c2, f2⟩ := bcell n2; obtain ⟨c3, f3⟩ := bcell n3; have hs := hb.size; (try simp at hs); clear h1 h2; have h1 := hb; have h2 := n2; clear n2 hb))
        have d3 := bT d2 n3
        have F1 := hide ((unhide HGR1).of n3)
        have F2 := hide ((unhide HGS1).of n3)
        clear HC3 HC4 HGR1 HGS1 h1 h2 n3
        go_wp2
        go_roundw
        case rel => exact ⟨k + 1, by omega, by go_num, unhide F1, unhide F2, d3⟩
        case measure => simp [intOf]; omega
    · have hkn : n = k := by omega
      subst hkn
      have HGR := hide hgr
      have HGS := hide hgs
      have q1 := hgr.size
      have q2 := hgs.size
      clear hgr hgs hlt hk HEU HEA
      have HO0 : Hid (OwnG (wr.alloc (.cells #[] 27)) wr.heap.size wr.heap.size 0 []) := ⟨rfl, Or.inr ⟨wr.heap.size, 0, #[], rfl, Nat.le_refl _, (MapKept.heap_alloc wr _).1, Nat.le_refl _, Nat.zero_le _, rfl, rfl⟩⟩
      rename World => wo
      go_wp2
      go_loopw [6, 7] (fun s c wr => ∃ (k Gt ct : Nat), k ≤ n ∧ c = .int .i64 ((k : Int) - 1) ∧ s = .slice (some ⟨Gt, 0, none⟩) (n - k) ct ∧ OwnG wr wo.heap.size Gt ct (rs.drop k).reverse ∧ Below wo.heap.size wo wr) (fun _ c _ => (intOf c + 1).toNat)
      case atStart =>
        have hrl : rs.length = n := by rw [(unhide HGR).len]; exact (unhide HND).symm
        refine ⟨n, wo.heap.size, 0, Nat.le_refl _, rfl, by rw [Nat.sub_self], ?_, bA (Below.refl _ _) _⟩
        rw [List.drop_of_length_le (by omega)]
        exact HO0.out
      case round =>
        clear HO0
        obtain ⟨k, Gt, ct, hk, rfl, rfl, hO, hb2⟩ := hrel
        have hrl : rs.length = n := by rw [(unhide HGR).len]; exact (unhide HND).symm
        rcases k with _ | m
        · have hgr := (unhide HGR).of hb2
          have hgs := (unhide HGS).of hb2
          have hT : GS wr Gt ct rs.reverse D.reverse := ⟨hO.lt.1, hO.grid, fun r hr => hgr.rows r (List.mem_reverse.1 hr), by rw [List.map_reverse, hgr.vals]⟩
          have SC := hide (gSort D.reverse E n (by rw [List.length_reverse]; exact unhide HND) (unhide HER) hn1 (fun x hx => unhide HWD x (List.mem_reverse.1 hx)) wr Gt ct rs.reverse hT)
          have d4 := bT hb hb2
          have HS4 := hide hgs
          clear hgr hgs hT hO HGR HGS hb hb2 hrl
          go_wp2_with fail
          refine (unhide SC).mono ?_; rintro e w5 ⟨G5, c5, us, rfl, h5, hb5⟩
          have HS5 := hide ((unhide HS4).of hb5)
          have SM := hide (gSame E n (unhide HEL) hn1 (unhide HEW) w5 G5 c5 Gs cz us qs h5 (unhide HS5))
          have d5 := bT d4 hb5
          clear SC h5 hb5 HS4 d4
          go_wp2_with fail
          refine (unhide SM).mono ?_; rintro e w6 ⟨rfl, hb6⟩
          have HS6 := hide ((unhide HS5).of hb6)
          have SC := hide (gSort E E n (unhide HEL) (unhide HEE) hn1 (unhide HEW) w6 Gs cz qs (unhide HS6))
          have d6 := bT d5 hb6
          clear SM hb6 HS5 d5
          go_wp2_with fail
          refine (unhide SC).mono ?_; rintro e w7 ⟨G7, c7, vs, rfl, h7, hb7⟩
          have HS7 := hide ((unhide HS6).of hb7)
          have SM := hide (gSame E n (unhide HEL) hn1 (unhide HEW) w7 G7 c7 Gs cz vs qs h7 (unhide HS7))
          have d7 := bT d6 hb7
          clear SC h7 hb7 HS6 d6
          go_wp2_with fail
          refine (unhide SM).mono ?_; rintro e w8 ⟨rfl, hb8⟩
          have d8 := bT d7 hb8
          clear SM hb8 HS7 d7
          go_wp2
          go_ret
          exact ⟨rfl, d8⟩
        · have hkm : ((m + 1 : Nat) : Int) - 1 = (m : Int) := by omega
          rw [hkm]
          obtain ⟨L, hL⟩ : ∃ L, L = n - (m + 1) := ⟨_, rfl⟩
          rw [← hL]
          have hml : m < rs.length := by omega
          have hLl : (rs.drop (m + 1)).reverse.length = L := by rw [List.length_reverse, List.length_drop]; omega
          have hap : (rs.drop (m + 1)).reverse ++ [rs[m]] = (rs.drop m).reverse := by rw [List.drop_eq_getElem_cons hml, List.reverse_cons]
          have hgw := (unhide HGR).of hb2
          have x0 := hgw.grid m rs[m] (by simp [hml])
          have hOl := hO.lt
          generalize rs[m] = r at *
          obtain ⟨rg, rc, rx⟩ := r
          unfold rv at x0
          simp only [Nat.zero_add] at x0
          generalize (rs.drop (m + 1)).reverse = dr at *
          have q3 := hgw.size
          have i1 : (m : Int) < (n : Int) := by omega
          have i2 : m < n := by omega
          have HL := hide hL; have HAP := hide hap; have HLl := hide hLl; have HO := hide hO; have HB := hide hb2
          have hsz := hb2.size
          have hLn : L ≤ 1000 := by omega
          clear hL hap hLl hO hkm hgw hml hrl hk
          obtain ⟨i, hi, hz⟩ := Option.map_eq_some_iff.1 (show (Try.prog.info? 27).map (fun i => (i.zero, i.size, i.bytes)) = some (some (.slice none 0 0), 1, 24) by kernel_rfl)
          simp only [Prod.mk.injEq] at hz
          obtain ⟨hz0, hz1, hz2⟩ := hz
          have HOW : Hid ((wr.alloc (.cells #[.slice (some ⟨rg, 0, none⟩) rx.length rc] 27)).ownsRow wo.heap.size 27 1 (.slice (some ⟨Gt, 0, none⟩) L ct) L (dr.map rv)) := by
            have := (unhide HO).of (bA (Below.refl wr.heap.size wr) (.cells #[.slice (some ⟨rg, 0, none⟩) rx.length rc] 27))
            unfold OwnG at this
            rw [unhide HLl] at this
            exact this
          go_wp2_with (at_builtin; refine wpList_append_lies _ rfl (.tmp 76) (.tmp 81) 23 rfl wo.heap.size 27 i _ 1 24 Try.underlying23 hi hz0 hz1 hz2 rfl (by decide) (.slice (some ⟨Gt, 0, none⟩) L ct) L (dr.map rv) rfl (unhide HOW) ⟨wr.heap.size, 0, none⟩ 1 1 [.slice (some ⟨rg, 0, none⟩) rx.length rc] rfl rfl (World.news_of_block (w := (wr.alloc (.cells #[.slice (some ⟨rg, 0, none⟩) rx.length rc] 27))) (cs := #[.slice (some ⟨rg, 0, none⟩) rx.length rc]) (MapKept.heap_alloc wr _).1) (by intro u hu; simp at hu; subst hu; rfl) (by decide) (by unfold maxLen; omega) (by omega) (by simp; omega) _ rfl ?_; intro G2 c2 w5 hown2 hgrow hat hlt2)
          have HN : Hid (OwnG w5 wo.heap.size G2 c2 (rs.drop m).reverse) := by
            show OwnG _ _ _ _ _
            rw [← unhide HAP]
            unfold OwnG
            rw [show (dr ++ [(rg, rc, rx)]).length = L + 1 by simp; exact unhide HLl, List.map_append]
            exact hown2
          have HB2 : Hid (Below wo.heap.size wo w5) := (bA (unhide HB) (.cells #[.slice (some ⟨rg, 0, none⟩) rx.length rc] 27)).grown hgrow (by simp; omega) (fun j hj => by
            have : Gt = j := by simpa [Value.ownBlock] using hj
            omega)
          clear hown2 hgrow hat HOW HO HB HAP HLl
          go_wp2
          go_roundw
          case rel => exact ⟨m, G2, c2, by omega, by go_num, by rw [show n - m = L + 1 by have := unhide HL; omega], HN.out, HB2.out⟩
          case measure => simp [intOf]
end Go.Proofs.Ytafmlbojmmdcdaa
