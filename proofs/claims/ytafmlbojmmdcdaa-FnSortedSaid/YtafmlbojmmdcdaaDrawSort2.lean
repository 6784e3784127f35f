import Derived.Test.YtafmlbojmmdcdaaDrawSort
import Derived.Deep.RegionLaw
namespace Go.Proofs.Ytafmlbojmmdcdaa
open Go Go.RowKit
/-- from the reader's making on -/
theorem Drw.from {R : Nat} {w w1 w2 : World} (h : Below w.heap.size w w1) (hR : w.heap.size ≤ R) (hd : Drw R w1 w2) : Below w.heap.size w w2 := h.trans (hd.low.mono hR)
set_option maxHeartbeats 4000000 in
theorem DrawSortRows_calls (v : Value) (cs : List Nat) (w : World) (hv : IsBytes w v cs) (hby : ∀ b ∈ cs, b ≤ 255) (hn : cs.length ≤ 1048576) :
    Calls Try.prog 4 #[v] w fun e w' => ∃ G co qs, e = .returned (.slice (some ⟨G, 0, none⟩) (dSort cs).length co) ∧ OwnG w' w.heap.size G co qs ∧ RowsOk w' qs ∧ qs.map kR = dSort cs ∧ Below w.heap.size w w' := by
  have HO := hide (l1Open_calls v cs w hv hby hn)
  clear hv hby hn
  have hds : dSort cs = dSortB (cs.take 1500) := rfl
  rw [hds]
  clear hds
  generalize cs.take 1500 = bs at *
  go_enter Try.func4, Try.ntmps4
  go_wp2_with fail
  refine (unhide HO).mono ?_; rintro e w1 ⟨R, rfl, ⟨a, cap, hr1⟩, hR, hb1⟩
  clear HO
  have hkb := nxt_le hr1 0
  have hlb := hr1.len
  have hR1 := hr1.size
  have NX := hide (next_calls w1 R a cap bs 0 hr1)
  clear hr1
  go_wp2_with fail
  refine (unhide NX).mono ?_; rintro e w2 ⟨rfl, hr2, hd2⟩
  clear NX
  have LF := hide (left_calls w2 R a cap bs _ hr2)
  have HR2 := hide hr2
  clear hr2
  go_wp2_with fail
  refine (unhide LF).mono ?_; rintro e w3 ⟨rfl, hb3⟩
  clear LF
  have hs2 := hd2.size
  have hs3 := hb3.size
  have HR3 := hide ((unhide HR2).of hb3)
  have HD3 := hide (hd2.below (by omega) hb3)
  clear HR2 hd2 hb3
  have hRw : R < w3.heap.size := by omega
  have hst : dSortB bs = if nxt bs 0 % 3 = 2 ∧ 0 < dN bs then (dMain bs).1 ++ [[], (dRowN bs (dMain bs).2 1).1, ((dMain bs).1.getD 0 []).map clnV] else (dMain bs).1 := rfl
  have hNl := dN_le bs
  have hdn : dN bs = if 200 < nxt bs 0 % 5 + (bs.length - adv bs 0) / 4 then 200 else nxt bs 0 % 5 + (bs.length - adv bs 0) / 4 := rfl
  have DR := l1DrawRows_calls w3 R a cap bs (adv bs 0) (dN bs) (1 + nxt bs 0 / 5 % 3) (unhide HR3) (by omega) (by omega)
  rw [show dRowsN bs (adv bs 0) (1 + nxt bs 0 / 5 % 3) (dN bs) = dMain bs from rfl] at DR
  have hml : (dMain bs).1.length = dN bs := dRowsN_length _ _ _ _
  have hwd : ∀ x ∈ (dMain bs).1, x.length ≤ 1000 := fun x hx => by have := dRowsN_wide _ _ _ _ x hx; omega
  have hsb : (dSortB bs).length ≤ 203 := by rw [hst]; split <;> (try simp) <;> omega
  have hLb : bs.length - adv bs 0 ≤ 1500 := by omega
  obtain ⟨D, hD⟩ : ∃ D, dSortB bs = D := ⟨_, rfl⟩
  rw [hD] at hst hsb
  have HEND : Hid (∀ (w' : World) (G co n : Nat) (qs : List R3), OwnG w' w3.heap.size G co qs → RowsOk w' qs → qs.map kR = D → n = D.length → Drw R w3 w' → ∃ G' co' qs', Ending.returned (.slice (some ⟨G, 0, none⟩) n co) = .returned (.slice (some ⟨G', 0, none⟩) (dSortB bs).length co') ∧ OwnG w' w.heap.size G' co' qs' ∧ RowsOk w' qs' ∧ qs'.map kR = dSortB bs ∧ Below w.heap.size w w') := by
    intro w' G co n qs h1 h2 h3 h4 h5
    refine ⟨G, co, qs, by rw [hD, h4], h1.mono (by omega), h2, by rw [hD]; exact h3, Drw.from hb1 hR ((unhide HD3).trans h5)⟩
  clear HD3 hb1 hR hD
  generalize dMain bs = M at *
  generalize dN bs = N at *
  generalize bs.length - adv bs 0 = L at *
  generalize nxt bs 0 = K at *
  obtain ⟨M1, M2⟩ := M
  simp only at hst hml DR
  have HST := hide hst
  have HDR := hide DR
  have HML := hide hml
  have HWD := hide hwd
  clear hst DR hml HR3 hwd
  have i1 : ((200 : Int) < (K : Int) % 5 + (L : Int) / 4 ∧ N = 200) ∨ (¬ (200 : Int) < (K : Int) % 5 + (L : Int) / 4 ∧ (K : Int) % 5 + (L : Int) / 4 = (N : Int)) := by
    split at hdn
    · exact Or.inl ⟨by omega, hdn⟩
    · exact Or.inr ⟨by omega, by omega⟩
  clear hdn
  have iw : (1 : Int) + (K : Int) / 5 % 3 = ((1 + K / 5 % 3 : Nat) : Int) := by omega
  generalize 1 + K / 5 % 3 = W at *
  have hch : ((K : Int) % 3 == 2) = true ∨ ((K : Int) % 3 == 2) = false := by cases ((K : Int) % 3 == 2) <;> simp
  rcases i1 with ⟨i1, i2⟩ | ⟨i1, i2⟩
  · have HN : Hid ((N : Int) = 200) := by show _ = _; omega
    clear i2
    go_wp2_with fail
    have DRx := unhide HDR
    rw [unhide HN] at DRx
    refine DRx.mono ?_; rintro e wr ⟨G, co, qs, rfl, hS⟩
    clear DRx HDR
    rcases hch with hch | hch
    · have j1 : (0 : Int) < (N : Int) := by rw [unhide HN]; omega
      have hN0 : 0 < N := by omega
      have hgl := hS.own.lt
      have hql : qs.length = N := by rw [hS.len]; exact unhide HML
      have h0q : 0 < qs.length := by omega
      have hvs : qs.map kR = M1 := hS.vals
      obtain ⟨r, hr0⟩ : ∃ r, qs[0]? = some r := ⟨qs[0], by simp [h0q]⟩
      have hmem : r ∈ qs := List.mem_of_getElem? hr0
      have hval : M1.getD 0 [] = r.2.2 := by rw [← hvs, List.getD_eq_getElem?_getD, List.getElem?_map, hr0]; rfl
      have hrl : r.2.2.length ≤ 1000 := unhide HWD _ (by rw [← hvs]; exact List.mem_map.2 ⟨r, hmem, rfl⟩)
      have hcell := hS.own.grid 0 r hr0
      obtain ⟨rg, rc, rx⟩ := r
      unfold rv at hcell
      simp only [Nat.add_zero] at hcell hval hrl
      have hsz := hS.drw.size
      have T0 := hide (show Tri w3 wr wr R a cap bs M1 G co qs M2 [] from ⟨hS, Nat.le_refl _, fun r hr => by simp at hr⟩)
      have HST2 : Hid (D = M1 ++ [[], (dRowN bs M2 1).1, rx.map clnV]) := by
        show _ = _
        rw [unhide HST, hval, if_pos ⟨by simp at hch; omega, by omega⟩]
      have HR0 := hide hr0
      have HME := hide hmem
      have HQL := hide hql
      have hRr : R < wr.heap.size := by omega
      have hGr := hgl.1
      have hcap := hgl.2.2
      rw [hql] at hcap
      clear hS hgl hr0 hmem hval HST h0q hql hsb HWD hvs
      obtain ⟨i, hi, hz⟩ := Option.map_eq_some_iff.1 (show (Try.prog.info? 27).map (fun i => (i.zero, i.size, i.bytes)) = some (some (.slice none 0 0), 1, 24) by kernel_rfl)
      simp only [Prod.mk.injEq] at hz
      obtain ⟨hz0, hz1, hz2⟩ := hz
      go_wp2_with fail
      go_region_law (first
        | (go_simp
           go_at_call 14
           first
             | (have Tc := hide (((unhide T0).drew hRw).empty hRw 40)
                refine (l1DrawRow_calls _ R a cap bs M2 1 (unhide Tc).g.rd (by omega)).mono ?_)
             | (have Tc := hide ((unhide T0).drew hRw)
                refine (l1DrawRow_calls _ R a cap bs M2 1 (unhide Tc).g.rd (by omega)).mono ?_)
           rintro e w4 ⟨⟨g1, c1, rfl, ho1⟩, hr4, hd4⟩
           have T1 := hide ((unhide Tc).more hRr hRw hd4 hr4 ho1)
           have hc4 : w4.cell? ⟨G, 0, none⟩ = some (.slice (some ⟨rg, 0, none⟩) rx.length rc) := (unhide T1).g.own.grid 0 _ (unhide HR0)
           have hG4 : G < w4.heap.size := (unhide T1).g.own.lt.1
           have hs4 := (unhide T1).sz
           clear ho1 hr4 hd4 T0 Tc
           go_wp2_with fail)
        | (go_simp
           go_at_call 15
           first
             | (have Tc := hide ((unhide T1).empty hRw 40)
                refine (l1Row_calls rx rg 0 rc _ ((unhide Tc).g.rows _ (unhide HME)).1.size ((unhide Tc).g.rows _ (unhide HME)).1.held (by omega)).mono ?_)
             | (have Tc := T1
                refine (l1Row_calls rx rg 0 rc _ ((unhide Tc).g.rows _ (unhide HME)).1.size ((unhide Tc).g.rows _ (unhide HME)).1.held (by omega)).mono ?_)
           rintro e w5 ⟨g2, c2, rfl, ho2, hb2⟩
           have T2 := hide ((unhide Tc).copy hRw hb2 ho2)
           have hs5 := (unhide T2).sz
           clear ho2 hb2 T1 Tc hc4 hG4
           go_wp2_with fail)
        | (have Tc := hide ((unhide T2).empty hRw 40)
           have Te := hide ((unhide Tc).alloc hRw (.cells #[.slice (some ⟨w5.heap.size, 0, none⟩) 0 0, .slice (some ⟨g1, 0, none⟩) 1 c1, .slice (some ⟨g2, 0, none⟩) rx.length c2] 27))
           have HOW := hide (show (World.alloc _ (.cells #[.slice (some ⟨w5.heap.size, 0, none⟩) 0 0, .slice (some ⟨g1, 0, none⟩) 1 c1, .slice (some ⟨g2, 0, none⟩) rx.length c2] 27)).ownsRow w3.heap.size 27 1 (.slice (some ⟨G, 0, none⟩) N co) N (qs.map rv) from by have := (unhide Te).g.own; unfold OwnG at this; rw [unhide HQL] at this; exact this)
           refine step_append_lies _ rfl (.tmp 33) (.tmp 41) 23 rfl w3.heap.size 27 i _ 1 24 Try.underlying23 hi hz0 hz1 hz2 rfl (by decide) (.slice (some ⟨G, 0, none⟩) N co) N (qs.map rv) rfl (unhide HOW) ⟨_, 0, none⟩ 3 3 [.slice (some ⟨w5.heap.size, 0, none⟩) 0 0, .slice (some ⟨g1, 0, none⟩) 1 c1, .slice (some ⟨g2, 0, none⟩) rx.length c2] rfl rfl (World.news_of_block (cs := #[.slice (some ⟨w5.heap.size, 0, none⟩) 0 0, .slice (some ⟨g1, 0, none⟩) 1 c1, .slice (some ⟨g2, 0, none⟩) rx.length c2]) (w := ((w5.alloc (.cells #[] 40)).alloc (.cells #[.slice (some ⟨w5.heap.size, 0, none⟩) 0 0, .slice (some ⟨g1, 0, none⟩) 1 c1, .slice (some ⟨g2, 0, none⟩) rx.length c2] 27))) (B := w5.heap.size + 1) (by have h' := (MapKept.heap_alloc (w5.alloc (.cells #[] 40)) (.cells #[.slice (some ⟨w5.heap.size, 0, none⟩) 0 0, .slice (some ⟨g1, 0, none⟩) 1 c1, .slice (some ⟨g2, 0, none⟩) rx.length c2] 27)).1; rw [show (w5.alloc (.cells #[] 40)).heap.size = w5.heap.size + 1 by simp] at h'; exact h')) (by intro u hu; simp at hu; rcases hu with rfl | rfl | rfl <;> rfl) (by decide) (by unfold maxLen; omega) (by omega) (by simp; omega) _ rfl ?_
           intro G2 c3 w7 hown hgrow hat hlt2
           have HP := hide ((unhide Te).push3 (w2 := w7) (G2 := G2) (c2 := c3) (r1 := (w5.heap.size, 0, [])) (r2 := (g1, c1, (dRowN bs M2 1).1)) (r3 := (g2, c2, rx.map clnV)) hRw hGr (by simp) (by simp) (by simp) (by rw [unhide HQL]; have h' := hown; simp only [rv, List.length_map, List.length_nil, dRowN_length] at h' ⊢; exact h') hgrow)
           clear hown hgrow hat Te Tc HOW T2)
        | (have Tc := hide (unhide T2)
           have Te := hide ((unhide Tc).alloc hRw (.cells #[.slice (some ⟨w4.heap.size, 0, none⟩) 0 0, .slice (some ⟨g1, 0, none⟩) 1 c1, .slice (some ⟨g2, 0, none⟩) rx.length c2] 27))
           have HOW := hide (show (World.alloc _ (.cells #[.slice (some ⟨w4.heap.size, 0, none⟩) 0 0, .slice (some ⟨g1, 0, none⟩) 1 c1, .slice (some ⟨g2, 0, none⟩) rx.length c2] 27)).ownsRow w3.heap.size 27 1 (.slice (some ⟨G, 0, none⟩) N co) N (qs.map rv) from by have := (unhide Te).g.own; unfold OwnG at this; rw [unhide HQL] at this; exact this)
           refine step_append_lies _ rfl (.tmp 33) (.tmp 41) 23 rfl w3.heap.size 27 i _ 1 24 Try.underlying23 hi hz0 hz1 hz2 rfl (by decide) (.slice (some ⟨G, 0, none⟩) N co) N (qs.map rv) rfl (unhide HOW) ⟨_, 0, none⟩ 3 3 [.slice (some ⟨w4.heap.size, 0, none⟩) 0 0, .slice (some ⟨g1, 0, none⟩) 1 c1, .slice (some ⟨g2, 0, none⟩) rx.length c2] rfl rfl (World.news_of_block (cs := #[.slice (some ⟨w4.heap.size, 0, none⟩) 0 0, .slice (some ⟨g1, 0, none⟩) 1 c1, .slice (some ⟨g2, 0, none⟩) rx.length c2]) (MapKept.heap_alloc _ _).1) (by intro u hu; simp at hu; rcases hu with rfl | rfl | rfl <;> rfl) (by decide) (by unfold maxLen; omega) (by omega) (by simp; omega) _ rfl ?_
           intro G2 c3 w7 hown hgrow hat hlt2
           have HP := hide ((unhide Te).push3 (w2 := w7) (G2 := G2) (c2 := c3) (r1 := (w4.heap.size, 0, [])) (r2 := (g1, c1, (dRowN bs M2 1).1)) (r3 := (g2, c2, rx.map clnV)) hRw hGr (by simp) (by simp) (by simp) (by rw [unhide HQL]; have h' := hown; simp only [rv, List.length_map, List.length_nil, dRowN_length] at h' ⊢; exact h') hgrow)
           clear hown hgrow hat Te Tc HOW T2)
        | (have Tc := hide (unhide T2)
           have Te := hide ((unhide Tc).alloc hRw (.cells #[.slice (some ⟨wr.heap.size, 0, none⟩) 0 0, .slice (some ⟨g1, 0, none⟩) 1 c1, .slice (some ⟨g2, 0, none⟩) rx.length c2] 27))
           have HOW := hide (show (World.alloc _ (.cells #[.slice (some ⟨wr.heap.size, 0, none⟩) 0 0, .slice (some ⟨g1, 0, none⟩) 1 c1, .slice (some ⟨g2, 0, none⟩) rx.length c2] 27)).ownsRow w3.heap.size 27 1 (.slice (some ⟨G, 0, none⟩) N co) N (qs.map rv) from by have := (unhide Te).g.own; unfold OwnG at this; rw [unhide HQL] at this; exact this)
           refine step_append_lies _ rfl (.tmp 33) (.tmp 41) 23 rfl w3.heap.size 27 i _ 1 24 Try.underlying23 hi hz0 hz1 hz2 rfl (by decide) (.slice (some ⟨G, 0, none⟩) N co) N (qs.map rv) rfl (unhide HOW) ⟨_, 0, none⟩ 3 3 [.slice (some ⟨wr.heap.size, 0, none⟩) 0 0, .slice (some ⟨g1, 0, none⟩) 1 c1, .slice (some ⟨g2, 0, none⟩) rx.length c2] rfl rfl (World.news_of_block (cs := #[.slice (some ⟨wr.heap.size, 0, none⟩) 0 0, .slice (some ⟨g1, 0, none⟩) 1 c1, .slice (some ⟨g2, 0, none⟩) rx.length c2]) (MapKept.heap_alloc _ _).1) (by intro u hu; simp at hu; rcases hu with rfl | rfl | rfl <;> rfl) (by decide) (by unfold maxLen; omega) (by omega) (by simp; omega) _ rfl ?_
           intro G2 c3 w7 hown hgrow hat hlt2
           have HP := hide ((unhide Te).push3 (w2 := w7) (G2 := G2) (c2 := c3) (r1 := (wr.heap.size, 0, [])) (r2 := (g1, c1, (dRowN bs M2 1).1)) (r3 := (g2, c2, rx.map clnV)) hRw hGr (by simp) (by simp) (by simp) (by rw [unhide HQL]; have h' := hown; simp only [rv, List.length_map, List.length_nil, dRowN_length] at h' ⊢; exact h') hgrow)
           clear hown hgrow hat Te Tc HOW T2))
      all_goals
        go_wp2
        go_ret
        refine (unhide HEND) _ _ _ _ _ (unhide HP).1 (unhide HP).2.1 ?_ ?_ (unhide HP).2.2.2
        · rw [(unhide HP).2.2.1, unhide HST2]
        · rw [unhide HST2]; simp; exact (unhide HML).symm
    · have HS := hide hS
      have HK : Hid (¬ K % 3 = 2) := by show ¬ _; simp at hch; omega
      clear hS
      go_wp2
      go_ret
      refine (unhide HEND) _ _ _ _ qs (unhide HS).own (unhide HS).rows ?_ ?_ (unhide HS).drw
      · rw [(unhide HS).vals, unhide HST, if_neg (fun h => unhide HK h.1)]
      · rw [unhide HST, if_neg (fun h => unhide HK h.1)]; exact (unhide HML).symm
  · go_wp2_with fail
    refine (unhide HDR).mono ?_; rintro e wr ⟨G, co, qs, rfl, hS⟩
    clear HDR
    rcases hch with hch | hch
    · by_cases hN0 : 0 < N
      · have j1 : (0 : Int) < (N : Int) := by omega
        have hgl := hS.own.lt
        have hql : qs.length = N := by rw [hS.len]; exact unhide HML
        have h0q : 0 < qs.length := by omega
        have hvs : qs.map kR = M1 := hS.vals
        obtain ⟨r, hr0⟩ : ∃ r, qs[0]? = some r := ⟨qs[0], by simp [h0q]⟩
        have hmem : r ∈ qs := List.mem_of_getElem? hr0
        have hval : M1.getD 0 [] = r.2.2 := by rw [← hvs, List.getD_eq_getElem?_getD, List.getElem?_map, hr0]; rfl
        have hrl : r.2.2.length ≤ 1000 := unhide HWD _ (by rw [← hvs]; exact List.mem_map.2 ⟨r, hmem, rfl⟩)
        have hcell := hS.own.grid 0 r hr0
        obtain ⟨rg, rc, rx⟩ := r
        unfold rv at hcell
        simp only [Nat.add_zero] at hcell hval hrl
        have hsz := hS.drw.size
        have T0 := hide (show Tri w3 wr wr R a cap bs M1 G co qs M2 [] from ⟨hS, Nat.le_refl _, fun r hr => by simp at hr⟩)
        have HST2 : Hid (D = M1 ++ [[], (dRowN bs M2 1).1, rx.map clnV]) := by
          show _ = _
          rw [unhide HST, hval, if_pos ⟨by simp at hch; omega, by omega⟩]
        have HR0 := hide hr0
        have HME := hide hmem
        have HQL := hide hql
        have hRr : R < wr.heap.size := by omega
        have hGr := hgl.1
        have hcap := hgl.2.2
        rw [hql] at hcap
        clear hS hgl hr0 hmem hval HST h0q hql hsb HWD hvs
        obtain ⟨i, hi, hz⟩ := Option.map_eq_some_iff.1 (show (Try.prog.info? 27).map (fun i => (i.zero, i.size, i.bytes)) = some (some (.slice none 0 0), 1, 24) by kernel_rfl)
        simp only [Prod.mk.injEq] at hz
        obtain ⟨hz0, hz1, hz2⟩ := hz
        go_wp2_with fail
        go_region_law (first
          | (go_simp
             go_at_call 14
             first
               | (have Tc := hide (((unhide T0).drew hRw).empty hRw 40)
                  refine (l1DrawRow_calls _ R a cap bs M2 1 (unhide Tc).g.rd (by omega)).mono ?_)
               | (have Tc := hide ((unhide T0).drew hRw)
                  refine (l1DrawRow_calls _ R a cap bs M2 1 (unhide Tc).g.rd (by omega)).mono ?_)
             rintro e w4 ⟨⟨g1, c1, rfl, ho1⟩, hr4, hd4⟩
             have T1 := hide ((unhide Tc).more hRr hRw hd4 hr4 ho1)
             have hc4 : w4.cell? ⟨G, 0, none⟩ = some (.slice (some ⟨rg, 0, none⟩) rx.length rc) := (unhide T1).g.own.grid 0 _ (unhide HR0)
             have hG4 : G < w4.heap.size := (unhide T1).g.own.lt.1
             have hs4 := (unhide T1).sz
             clear ho1 hr4 hd4 T0 Tc
             go_wp2_with fail)
          | (go_simp
             go_at_call 15
             first
               | (have Tc := hide ((unhide T1).empty hRw 40)
                  refine (l1Row_calls rx rg 0 rc _ ((unhide Tc).g.rows _ (unhide HME)).1.size ((unhide Tc).g.rows _ (unhide HME)).1.held (by omega)).mono ?_)
               | (have Tc := T1
                  refine (l1Row_calls rx rg 0 rc _ ((unhide Tc).g.rows _ (unhide HME)).1.size ((unhide Tc).g.rows _ (unhide HME)).1.held (by omega)).mono ?_)
             rintro e w5 ⟨g2, c2, rfl, ho2, hb2⟩
             have T2 := hide ((unhide Tc).copy hRw hb2 ho2)
             have hs5 := (unhide T2).sz
             clear ho2 hb2 T1 Tc hc4 hG4
             go_wp2_with fail)
          | (have Tc := hide ((unhide T2).empty hRw 40)
             have Te := hide ((unhide Tc).alloc hRw (.cells #[.slice (some ⟨w5.heap.size, 0, none⟩) 0 0, .slice (some ⟨g1, 0, none⟩) 1 c1, .slice (some ⟨g2, 0, none⟩) rx.length c2] 27))
             have HOW := hide (show (World.alloc _ (.cells #[.slice (some ⟨w5.heap.size, 0, none⟩) 0 0, .slice (some ⟨g1, 0, none⟩) 1 c1, .slice (some ⟨g2, 0, none⟩) rx.length c2] 27)).ownsRow w3.heap.size 27 1 (.slice (some ⟨G, 0, none⟩) N co) N (qs.map rv) from by have := (unhide Te).g.own; unfold OwnG at this; rw [unhide HQL] at this; exact this)
             refine step_append_lies _ rfl (.tmp 33) (.tmp 41) 23 rfl w3.heap.size 27 i _ 1 24 Try.underlying23 hi hz0 hz1 hz2 rfl (by decide) (.slice (some ⟨G, 0, none⟩) N co) N (qs.map rv) rfl (unhide HOW) ⟨_, 0, none⟩ 3 3 [.slice (some ⟨w5.heap.size, 0, none⟩) 0 0, .slice (some ⟨g1, 0, none⟩) 1 c1, .slice (some ⟨g2, 0, none⟩) rx.length c2] rfl rfl (World.news_of_block (cs := #[.slice (some ⟨w5.heap.size, 0, none⟩) 0 0, .slice (some ⟨g1, 0, none⟩) 1 c1, .slice (some ⟨g2, 0, none⟩) rx.length c2]) (w := ((w5.alloc (.cells #[] 40)).alloc (.cells #[.slice (some ⟨w5.heap.size, 0, none⟩) 0 0, .slice (some ⟨g1, 0, none⟩) 1 c1, .slice (some ⟨g2, 0, none⟩) rx.length c2] 27))) (B := w5.heap.size + 1) (by have h' := (MapKept.heap_alloc (w5.alloc (.cells #[] 40)) (.cells #[.slice (some ⟨w5.heap.size, 0, none⟩) 0 0, .slice (some ⟨g1, 0, none⟩) 1 c1, .slice (some ⟨g2, 0, none⟩) rx.length c2] 27)).1; rw [show (w5.alloc (.cells #[] 40)).heap.size = w5.heap.size + 1 by simp] at h'; exact h')) (by intro u hu; simp at hu; rcases hu with rfl | rfl | rfl <;> rfl) (by decide) (by unfold maxLen; omega) (by omega) (by simp; omega) _ rfl ?_
             intro G2 c3 w7 hown hgrow hat hlt2
             have HP := hide ((unhide Te).push3 (w2 := w7) (G2 := G2) (c2 := c3) (r1 := (w5.heap.size, 0, [])) (r2 := (g1, c1, (dRowN bs M2 1).1)) (r3 := (g2, c2, rx.map clnV)) hRw hGr (by simp) (by simp) (by simp) (by rw [unhide HQL]; have h' := hown; simp only [rv, List.length_map, List.length_nil, dRowN_length] at h' ⊢; exact h') hgrow)
             clear hown hgrow hat Te Tc HOW T2)
          | (have Tc := hide (unhide T2)
             have Te := hide ((unhide Tc).alloc hRw (.cells #[.slice (some ⟨w4.heap.size, 0, none⟩) 0 0, .slice (some ⟨g1, 0, none⟩) 1 c1, .slice (some ⟨g2, 0, none⟩) rx.length c2] 27))
             have HOW := hide (show (World.alloc _ (.cells #[.slice (some ⟨w4.heap.size, 0, none⟩) 0 0, .slice (some ⟨g1, 0, none⟩) 1 c1, .slice (some ⟨g2, 0, none⟩) rx.length c2] 27)).ownsRow w3.heap.size 27 1 (.slice (some ⟨G, 0, none⟩) N co) N (qs.map rv) from by have := (unhide Te).g.own; unfold OwnG at this; rw [unhide HQL] at this; exact this)
             refine step_append_lies _ rfl (.tmp 33) (.tmp 41) 23 rfl w3.heap.size 27 i _ 1 24 Try.underlying23 hi hz0 hz1 hz2 rfl (by decide) (.slice (some ⟨G, 0, none⟩) N co) N (qs.map rv) rfl (unhide HOW) ⟨_, 0, none⟩ 3 3 [.slice (some ⟨w4.heap.size, 0, none⟩) 0 0, .slice (some ⟨g1, 0, none⟩) 1 c1, .slice (some ⟨g2, 0, none⟩) rx.length c2] rfl rfl (World.news_of_block (cs := #[.slice (some ⟨w4.heap.size, 0, none⟩) 0 0, .slice (some ⟨g1, 0, none⟩) 1 c1, .slice (some ⟨g2, 0, none⟩) rx.length c2]) (MapKept.heap_alloc _ _).1) (by intro u hu; simp at hu; rcases hu with rfl | rfl | rfl <;> rfl) (by decide) (by unfold maxLen; omega) (by omega) (by simp; omega) _ rfl ?_
             intro G2 c3 w7 hown hgrow hat hlt2
             have HP := hide ((unhide Te).push3 (w2 := w7) (G2 := G2) (c2 := c3) (r1 := (w4.heap.size, 0, [])) (r2 := (g1, c1, (dRowN bs M2 1).1)) (r3 := (g2, c2, rx.map clnV)) hRw hGr (by simp) (by simp) (by simp) (by rw [unhide HQL]; have h' := hown; simp only [rv, List.length_map, List.length_nil, dRowN_length] at h' ⊢; exact h') hgrow)
             clear hown hgrow hat Te Tc HOW T2)
          | (have Tc := hide (unhide T2)
             have Te := hide ((unhide Tc).alloc hRw (.cells #[.slice (some ⟨wr.heap.size, 0, none⟩) 0 0, .slice (some ⟨g1, 0, none⟩) 1 c1, .slice (some ⟨g2, 0, none⟩) rx.length c2] 27))
             have HOW := hide (show (World.alloc _ (.cells #[.slice (some ⟨wr.heap.size, 0, none⟩) 0 0, .slice (some ⟨g1, 0, none⟩) 1 c1, .slice (some ⟨g2, 0, none⟩) rx.length c2] 27)).ownsRow w3.heap.size 27 1 (.slice (some ⟨G, 0, none⟩) N co) N (qs.map rv) from by have := (unhide Te).g.own; unfold OwnG at this; rw [unhide HQL] at this; exact this)
             refine step_append_lies _ rfl (.tmp 33) (.tmp 41) 23 rfl w3.heap.size 27 i _ 1 24 Try.underlying23 hi hz0 hz1 hz2 rfl (by decide) (.slice (some ⟨G, 0, none⟩) N co) N (qs.map rv) rfl (unhide HOW) ⟨_, 0, none⟩ 3 3 [.slice (some ⟨wr.heap.size, 0, none⟩) 0 0, .slice (some ⟨g1, 0, none⟩) 1 c1, .slice (some ⟨g2, 0, none⟩) rx.length c2] rfl rfl (World.news_of_block (cs := #[.slice (some ⟨wr.heap.size, 0, none⟩) 0 0, .slice (some ⟨g1, 0, none⟩) 1 c1, .slice (some ⟨g2, 0, none⟩) rx.length c2]) (MapKept.heap_alloc _ _).1) (by intro u hu; simp at hu; rcases hu with rfl | rfl | rfl <;> rfl) (by decide) (by unfold maxLen; omega) (by omega) (by simp; omega) _ rfl ?_
             intro G2 c3 w7 hown hgrow hat hlt2
             have HP := hide ((unhide Te).push3 (w2 := w7) (G2 := G2) (c2 := c3) (r1 := (wr.heap.size, 0, [])) (r2 := (g1, c1, (dRowN bs M2 1).1)) (r3 := (g2, c2, rx.map clnV)) hRw hGr (by simp) (by simp) (by simp) (by rw [unhide HQL]; have h' := hown; simp only [rv, List.length_map, List.length_nil, dRowN_length] at h' ⊢; exact h') hgrow)
             clear hown hgrow hat Te Tc HOW T2))
        all_goals
          go_wp2
          go_ret
          refine (unhide HEND) _ _ _ _ _ (unhide HP).1 (unhide HP).2.1 ?_ ?_ (unhide HP).2.2.2
          · rw [(unhide HP).2.2.1, unhide HST2]
          · rw [unhide HST2]; simp; exact (unhide HML).symm
      · obtain rfl : N = 0 := by omega
        have HS := hide hS
        clear hS
        go_wp2
        go_ret
        refine (unhide HEND) _ _ _ _ qs (unhide HS).own (unhide HS).rows ?_ ?_ (unhide HS).drw
        · rw [(unhide HS).vals, unhide HST]; simp
        · rw [unhide HST]; simp; exact (unhide HML).symm
    · have HS := hide hS
      have HK : Hid (¬ K % 3 = 2) := by show ¬ _; simp at hch; omega
      clear hS
      go_wp2
      go_ret
      refine (unhide HEND) _ _ _ _ qs (unhide HS).own (unhide HS).rows ?_ ?_ (unhide HS).drw
      · rw [(unhide HS).vals, unhide HST, if_neg (fun h => unhide HK h.1)]
      · rw [unhide HST, if_neg (fun h => unhide HK h.1)]; exact (unhide HML).symm
end Go.Proofs.Ytafmlbojmmdcdaa
