import Derived.Test.YtbbjhepagkkjeaaGreatDoorQ31
import Derived.BigQuiet
import Derived.Test.YtbbjhepagkkjeaaGreatDoorQ3
import Derived.Test.YtbbjhepagkkjeaaGreatDoorQ11
import Derived.Test.YtbbjhepagkkjeaaGreatDoorQ23
import Derived.Test.YtbbjhepagkkjeaaGreatDoorQ8
import Derived.Test.YtbbjhepagkkjeaaGreatDoorQ30
namespace Go.Proofs.YtbbjhepagkkjeaaGreatDoor
open Go Go.RowKit
set_option maxRecDepth 100000 in
set_option maxHeartbeats 2000000 in
theorem ssort_step (n : Nat) (ih : SSortSaid n) : SSortSaid (n + 1) := by
  intro rs G off cap w hn hG hr hro hcap hb1 hb2
  by_cases hl : rs.length < 2
  · rcases rs with _ | ⟨r, _ | ⟨r1, rest⟩⟩
    · exact ssort_zero (n + 1) G off cap w
    · exact ssort_one (n + 1) r G off cap w hr hro (hb2 r (by simp))
    · simp at hl; omega
  have hl0 : ¬ (rs.length : Int) = 0 := by omega
  have hl1 : ¬ (rs.length : Int) = 1 := by omega
  have hl0' : ((rs.length : Int) == 0) = false := by simpa using hl0
  have hl1' : ((rs.length : Int) == 1) = false := by simpa using hl1
  obtain ⟨h, hh⟩ : ∃ h, h = rs.length / 2 := ⟨_, rfl⟩
  have hh1 : 1 ≤ h := by omega
  have hh2 : h < rs.length := by omega
  obtain ⟨o2, ho2, hsl⟩ := gslice_low G off rs.length cap h (by omega) hcap
  rw [ho2 hh2] at hsl
  clear ho2
  have hsh := gslice_high G off rs.length cap h (by omega)
  have IH1 : ∀ w1 : World, Below w.heap.size w w1 → Calls Tryz.prog 10 #[.slice (some ⟨G, off, none⟩) h cap] w1 fun e w' => ∃ G' cap' qs, e = .returned (.slice (some ⟨G', 0, none⟩) h cap') ∧ OwnG w' w1.heap.size G' cap' qs ∧ (RowsOk w' qs ∧ ∀ r ∈ qs, w1.heap.size ≤ r.1) ∧ qs.map kR = msF (fun x => x) n ((rs.map cleanR).take h) ∧ Below w1.heap.size w1 w' := by
    intro w1 hb
    have := ih (rs.take h) G off cap w1 (by simp; omega) (Nat.lt_of_lt_of_le hG hb.size) ((hr.of hG hb).take h) ((hro.of hb).sub (fun r hr => List.mem_of_mem_take hr)) (by simp; omega) (by simp; omega) (fun r hr => hb2 r (List.mem_of_mem_take hr))
    rw [show (rs.take h).length = h by simp; omega, List.map_take] at this
    exact this
  have IH2 : ∀ w1 : World, Below w.heap.size w w1 → Calls Tryz.prog 10 #[.slice (some ⟨G, off + h, none⟩) (rs.length - h) (cap - h)] w1 fun e w' => ∃ G' cap' qs, e = .returned (.slice (some ⟨G', 0, none⟩) (rs.length - h) cap') ∧ OwnG w' w1.heap.size G' cap' qs ∧ (RowsOk w' qs ∧ ∀ r ∈ qs, w1.heap.size ≤ r.1) ∧ qs.map kR = msF (fun x => x) n ((rs.map cleanR).drop h) ∧ Below w1.heap.size w1 w' := by
    intro w1 hb
    have := ih (rs.drop h) G (off + h) (cap - h) w1 (by simp; omega) (Nat.lt_of_lt_of_le hG hb.size) ((hr.of hG hb).drop h) ((hro.of hb).sub (fun r hr => List.mem_of_mem_drop hr)) (by simp; omega) (by simp; omega) (fun r hr => hb2 r (List.mem_of_mem_drop hr))
    rw [show (rs.drop h).length = rs.length - h by simp, List.map_drop] at this
    exact this
  have HRES : Hid (msF (fun x => x) (n + 1) (rs.map cleanR) = mrgF (fun x => x) rs.length (msF (fun x => x) n ((rs.map cleanR).take h)) (msF (fun x => x) n ((rs.map cleanR).drop h))) := by
    show _ = _
    simp only [msF, List.length_map]
    rw [if_neg hl, ← hh]
  have hBND : ∀ xs ∈ rs.map cleanR, xs.length ≤ 1048576 := fun xs hx => by
    obtain ⟨r, hr1, rfl⟩ := List.mem_map.1 hx
    simpa using hb2 r hr1
  have hA : (msF (fun x => x) n ((rs.map cleanR).take h)).length = h := by rw [msF_length]; simp; omega
  have hB : (msF (fun x => x) n ((rs.map cleanR).drop h)).length = rs.length - h := by rw [msF_length]; simp
  have mA : ∀ x ∈ msF (fun x => x) n ((rs.map cleanR).take h), x.length ≤ 1048576 := fun x hx => hBND x (List.mem_of_mem_take ((msF_perm _ n _).mem_iff.1 hx))
  have mB : ∀ x ∈ msF (fun x => x) n ((rs.map cleanR).drop h), x.length ≤ 1048576 := fun x hx => hBND x (List.mem_of_mem_drop ((msF_perm _ n _).mem_iff.1 hx))
  clear hBND
  generalize msF (fun x => x) n ((rs.map cleanR).take h) = A0 at *
  generalize msF (fun x => x) n ((rs.map cleanR).drop h) = B0 at *
  generalize msF (fun x => x) (n + 1) (rs.map cleanR) = RES0 at *
  have H1 := hide IH1; have H2 := hide IH2; have HA := hide hA; have HB := hide hB
  have hdiv : (rs.length : Int) / 2 = (h : Int) := by omega
  have hdiv2 : (rs.length : Int).tdiv 2 = (h : Int) := by rw [Int.tdiv_eq_ediv_of_nonneg (by omega)]; exact hdiv
  clear IH1 IH2 hA hB hh
  go_enter Tryz.func10, Tryz.ntmps10
  go_wp2_with fail
  refine (unhide H1 _ (Below.refl _ _)).mono ?_; rintro e w1 ⟨Ga, ca, A, rfl, hoa, ⟨hra, hna⟩, hma, hba⟩
  go_wp2_with fail
  refine (unhide H2 _ hba).mono ?_; rintro e w2 ⟨Gb, cb, B, rfl, hob, ⟨hrb, hnb⟩, hmb, hbb⟩
  have d2 := bT hba hbb
  have gA : GridAt w2 Ga 0 A := (hoa.of hbb).grid
  have gB : GridAt w2 Gb 0 B := hob.grid
  have lA : Ga < w2.heap.size := (hoa.of hbb).lt.1
  have lB : Gb < w2.heap.size := hob.lt.1
  have cA := hoa.lt.2.2.1
  have cB := hob.lt.2.2.1
  have hAl : A.length = h := by rw [← unhide HA, ← hma]; simp
  have hBl : B.length = rs.length - h := by rw [← unhide HB, ← hmb]; simp
  have hRo : RowsOk w2 (A ++ B) := fun r hr => by
    rcases List.mem_append.1 hr with h' | h'
    · exact (hra.of hbb) r h'
    · exact hrb r h'
  have HNw : Hid (∀ r ∈ A ++ B, w.heap.size ≤ r.1) := fun r hr => by
    rcases List.mem_append.1 hr with h' | h'
    · exact hna r h'
    · exact Nat.le_trans hba.size (hnb r h')
  have hRb : ∀ r ∈ A ++ B, r.2.2.length ≤ 1048576 := fun r hr => by
    rcases List.mem_append.1 hr with h' | h'
    · exact mA _ (by rw [← hma]; exact List.mem_map.2 ⟨r, h', rfl⟩)
    · exact mB _ (by rw [← hmb]; exact List.mem_map.2 ⟨r, h', rfl⟩)
  have HFIN : Hid ((mrgF kR rs.length A B).map kR = RES0) := by
    show _ = _
    rw [unhide HRES, mrgF_map kR (fun x => x) kR (fun _ => rfl), hma, hmb]
  have hRL : (A ++ B).length = rs.length := by simp; omega
  have HM : Hid (Mst (A ++ B) (mrgF kR rs.length A B) w2.heap.size Ga Gb w2 (w2.alloc (.cells #[] 52)) A B [] 0 ca 0 cb w2.heap.size 0) := by
    have hal := bA (Below.refl w2.heap.size w2) (.cells #[] 52)
    exact ⟨gA.of lA hal, gB.of lB hal, OwnG.lit w2 [] _ rfl (by simp), cA, cB, fun r hr => List.mem_append_left _ hr, fun r hr => List.mem_append_right _ hr, by simp, by rw [hAl, hBl, show h + (rs.length - h) = rs.length by omega]; rfl, hal⟩
  clear hoa hob hba hbb H1 H2 gA gB mA mB hsl hsh hma hmb HRES hra hrb hna hnb HA HB
  generalize hRR : mrgF kR rs.length A B = RES at *
  have HAl := hide hAl; have HBl := hide hBl
  have HPM : Hid (∀ r ∈ RES, r ∈ A ++ B) := fun r hr => (mrgF_perm kR _ A B).mem_iff.1 (by rw [hRR]; exact hr)
  clear hRR
  go_wp2
  go_loopw [4, 5, 6] (fun s6 s7 s8 wr => ∃ (la lb lo : List R3) (oa ca ob cb Go co : Nat), s6 = .slice (some ⟨Ga, oa, none⟩) la.length ca ∧ s7 = .slice (some ⟨Gb, ob, none⟩) lb.length cb ∧ s8 = .slice (some ⟨Go, 0, none⟩) lo.length co ∧ Mst (A ++ B) RES w2.heap.size Ga Gb w2 wr la lb lo oa ca ob cb Go co) (fun s6 s7 _ _ => lenOf s6 + lenOf s7)
  case atStart => exact ⟨A, B, [], 0, ca, 0, cb, _, _, by rw [unhide HAl], by rw [unhide HBl], rfl, HM.out⟩
  case round =>
    clear HM cA cB hAl hBl HAl HBl
    obtain ⟨la, lb, lo, oa, ca, ob, cb, Go, co, rfl, rfl, rfl, hM⟩ := hrel
    have HM := hide hM
    have hlow := hM.low
    clear hM
    obtain ⟨i, hi, hz⟩ := Option.map_eq_some_iff.1 (show (Tryz.prog.info? 52).map (fun i => (i.zero, i.size, i.bytes)) = some (some (.slice none 0 0), 1, 24) by kernel_rfl)
    simp only [Prod.mk.injEq] at hz
    obtain ⟨hz0, hz1, hz2⟩ := hz
    have hGo := (unhide HM).own.lt
    have hbs := hlow.size
    rcases la with _ | ⟨x, la⟩ <;> rcases lb with _ | ⟨y, lb⟩
    · have HRS : Hid (lo = RES) := by
        show _ = _
        rw [← (unhide HM).res]
        simp [mrgF_nil_left]
      have hlen := (unhide HM).len
      simp only [List.length_nil, Nat.add_zero] at hlen
      have hll : lo.length = rs.length := by omega
      have HOW : Hid (OwnG wr w.heap.size Go co lo) := (unhide HM).own.mono d2.size
      have HRO : Hid (RowsOk wr lo) := by
        intro r hr
        exact (hRo.of hlow) r (HPM.out r (by rw [← HRS.out]; exact hr))
      go_wp2
      go_ret
      exact ⟨Go, co, lo, congrArg (fun z => Ending.returned (.slice (some ⟨Go, 0, none⟩) z co)) hll, HOW.out, ⟨HRO.out, fun r hr => HNw.out r (HPM.out r (by rw [← HRS.out]; exact hr))⟩, by rw [HRS.out]; exact HFIN.out, d2.trans (hlow.mono d2.size)⟩
    · have e1 : (0 : Int) < (lb.length : Int) + 1 := by omega
      have e3 : (((lb.length : Int) + 1) == 0) = false := by simp; omega
      have qA : Ga < wr.heap.size := Nat.lt_of_lt_of_le lA hlow.size
      have qB : Gb < wr.heap.size := Nat.lt_of_lt_of_le lB hlow.size
      go_upto_region 10 with fail
      go_quiet (fail)
      have f4 : Below wr.heap.size wr (wr.drewN nq) := below_drewN (Below.refl _ _) _
      generalize wr.drewN nq = w4 at *
      have hc0 := (unhide HM).hb
      simp only [List.length_cons] at hc0
      obtain ⟨o3, ho3, hs3⟩ := gslice_one Gb ob lb.length cb hc0
      have hcell : w4.cell? ⟨Gb, ob, none⟩ = some (rv y) := (((unhide HM).gb.of qB f4) 0 y rfl)
      unfold rv at hcell
      have HO3 := hide ho3
      clear ho3 hc0
      have HOW4 := hide (((unhide HM).own.of f4).of (bA (Below.refl w4.heap.size w4) (.cells #[rv y] 52)))
      have lt4 := Nat.lt_of_lt_of_le qB f4.size
      have hbs4 := f4.size
      have hlen := (unhide HM).len
      simp only [List.length_cons] at hlen
      go_wp2_with (at_builtin; refine wpList_append_lies _ rfl (.tmp 65) (.tmp 69) 30 rfl w2.heap.size 52 i _ 1 24 Tryz.underlying30 hi hz0 hz1 hz2 rfl (by decide) (.slice (some ⟨Go, 0, none⟩) lo.length co) lo.length (lo.map rv) rfl (unhide HOW4) ⟨w4.heap.size, 0, none⟩ 1 1 [rv y] rfl rfl (World.news_of_block (w := (w4.alloc (.cells #[rv y] 52))) (cs := #[rv y]) (MapKept.heap_alloc w4 _).1) (by intro u hu; simp at hu; subst hu; rfl) (by decide) (by unfold maxLen; omega) (by omega) (by simp; omega) _ rfl ?_; intro g2 cap2 w5 hown2 hgrow hat hlt2)
      have e2' : Below w2.heap.size w4 w5 := Below.grown ((Below.refl w2.heap.size w4).alloc (by omega) _) hgrow (by show w2.heap.size ≤ (w4.alloc _).heap.size; simp; omega) (fun k9 hk9 => by
        have e9 : Go = k9 := by simpa [Value.ownBlock] using hk9
        omega)
      have HNEW : Hid (Mst (A ++ B) RES w2.heap.size Ga Gb w2 w5 ([]) (lb) (lo ++ [y]) oa ca o3 (cb - 1) g2 cap2) := by
        have h1' := (unhide HM).ha
        have h2' := (unhide HM).hb
        simp only [List.length_cons] at h1' h2'
        refine ⟨((unhide HM).ga.of qA f4).ofB lA e2', (((unhide HM).gb.of qB f4).tail1 (unhide HO3)).ofB lB e2', ?_, ?_, ?_, ?_, ?_, ?_, ?_, (hlow.trans (f4.mono hbs)).trans e2'⟩
        · show OwnG _ _ _ _ _
          unfold OwnG
          rw [show (lo ++ [y]).length = lo.length + 1 by simp, List.map_append]
          exact hown2
        · first | omega | (simp only [List.length_cons]; omega)
        · first | omega | (simp only [List.length_cons]; omega)
        · exact fun r hr => (unhide HM).ma r (by first | exact hr | exact List.mem_cons_of_mem _ hr)
        · exact fun r hr => (unhide HM).mb r (by first | exact hr | exact List.mem_cons_of_mem _ hr)
        · first | (simp; omega) | (simp at hlen ⊢; omega)
        · rw [← (unhide HM).res]; simp [mrgF_nil_left]
      clear hown2 hgrow hat e2' HOW4 HO3 HM hcell
      go_wp2
      go_roundw
      case rel => exact ⟨[], lb, lo ++ [y], oa, ca, o3, (cb - 1), g2, cap2, rfl, rfl, by simp, HNEW.out⟩
      case measure => simp [lenOf]
    · have e1 : (0 : Int) < (la.length : Int) + 1 := by omega
      have qA : Ga < wr.heap.size := Nat.lt_of_lt_of_le lA hlow.size
      have qB : Gb < wr.heap.size := Nat.lt_of_lt_of_le lB hlow.size
      go_upto_region 10 with fail
      go_quiet (fail)
      have f4 : Below wr.heap.size wr (wr.drewN nq) := below_drewN (Below.refl _ _) _
      generalize wr.drewN nq = w4 at *
      have hc0 := (unhide HM).ha
      simp only [List.length_cons] at hc0
      obtain ⟨o3, ho3, hs3⟩ := gslice_one Ga oa la.length ca hc0
      have hcell : w4.cell? ⟨Ga, oa, none⟩ = some (rv x) := (((unhide HM).ga.of qA f4) 0 x rfl)
      unfold rv at hcell
      have HO3 := hide ho3
      clear ho3 hc0
      have HOW4 := hide (((unhide HM).own.of f4).of (bA (Below.refl w4.heap.size w4) (.cells #[rv x] 52)))
      have lt4 := Nat.lt_of_lt_of_le qA f4.size
      have hbs4 := f4.size
      have hlen := (unhide HM).len
      simp only [List.length_cons] at hlen
      go_wp2_with (at_builtin; refine wpList_append_lies _ rfl (.tmp 57) (.tmp 61) 30 rfl w2.heap.size 52 i _ 1 24 Tryz.underlying30 hi hz0 hz1 hz2 rfl (by decide) (.slice (some ⟨Go, 0, none⟩) lo.length co) lo.length (lo.map rv) rfl (unhide HOW4) ⟨w4.heap.size, 0, none⟩ 1 1 [rv x] rfl rfl (World.news_of_block (w := (w4.alloc (.cells #[rv x] 52))) (cs := #[rv x]) (MapKept.heap_alloc w4 _).1) (by intro u hu; simp at hu; subst hu; rfl) (by decide) (by unfold maxLen; omega) (by omega) (by simp; omega) _ rfl ?_; intro g2 cap2 w5 hown2 hgrow hat hlt2)
      have e2' : Below w2.heap.size w4 w5 := Below.grown ((Below.refl w2.heap.size w4).alloc (by omega) _) hgrow (by show w2.heap.size ≤ (w4.alloc _).heap.size; simp; omega) (fun k9 hk9 => by
        have e9 : Go = k9 := by simpa [Value.ownBlock] using hk9
        omega)
      have HNEW : Hid (Mst (A ++ B) RES w2.heap.size Ga Gb w2 w5 (la) ([]) (lo ++ [x]) o3 (ca - 1) ob cb g2 cap2) := by
        have h1' := (unhide HM).ha
        have h2' := (unhide HM).hb
        simp only [List.length_cons] at h1' h2'
        refine ⟨(((unhide HM).ga.of qA f4).tail1 (unhide HO3)).ofB lA e2', ((unhide HM).gb.of qB f4).ofB lB e2', ?_, ?_, ?_, ?_, ?_, ?_, ?_, (hlow.trans (f4.mono hbs)).trans e2'⟩
        · show OwnG _ _ _ _ _
          unfold OwnG
          rw [show (lo ++ [x]).length = lo.length + 1 by simp, List.map_append]
          exact hown2
        · first | omega | (simp only [List.length_cons]; omega)
        · first | omega | (simp only [List.length_cons]; omega)
        · exact fun r hr => (unhide HM).ma r (by first | exact hr | exact List.mem_cons_of_mem _ hr)
        · exact fun r hr => (unhide HM).mb r (by first | exact hr | exact List.mem_cons_of_mem _ hr)
        · first | (simp; omega) | (simp at hlen ⊢; omega)
        · rw [← (unhide HM).res]; simp [mrgF_nil_right]
      clear hown2 hgrow hat e2' HOW4 HO3 HM hcell
      go_wp2
      go_roundw
      case rel => exact ⟨la, [], lo ++ [x], o3, (ca - 1), ob, cb, g2, cap2, rfl, rfl, by simp, HNEW.out⟩
      case measure => simp [lenOf]
    · have hx := (unhide HM).ga 0 x rfl
      have hy := (unhide HM).gb 0 y rfl
      simp only [Nat.add_zero] at hx hy
      have mx : x ∈ A ++ B := (unhide HM).ma x (by simp)
      have my : y ∈ A ++ B := (unhide HM).mb y (by simp)
      have rx := (hRo.of (Below.drew hlow)) x mx
      have ry := (hRo.of (Below.drew hlow)) y my
      have bx := hRb x mx
      have by' := hRb y my
      unfold rv at hx hy
      have RC := fun w h1 h2 h3 h4 => sRowCmp_calls x.2.2 y.2.2 x.1 0 x.2.1 y.1 0 y.2.1 w h1 h2 h3 h4 rx.2 ry.2 bx by'
      have qA : Ga < wr.heap.size := Nat.lt_of_lt_of_le lA hlow.size
      have qB : Gb < wr.heap.size := Nat.lt_of_lt_of_le lB hlow.size
      have HRX := hide rx; have HRY := hide ry; have HRC := hide RC
      clear rx ry RC bx by'
      have e1 : (0 : Int) < (la.length : Int) + 1 := by omega
      have e2 : (0 : Int) < (lb.length : Int) + 1 := by omega
      have e3 : (((lb.length : Int) + 1) == 0) = false := by simp; omega
      go_upto_region 10 with fail
      go_region_held3 (Std wr) (repeat (first | with_reducible assumption | with_reducible exact Std.refl _ | with_reducible refine Std.drew ?_ | with_reducible refine Std.alloc ?_ _ | with_reducible refine Std.setCell ?_ ?_ _ | with_reducible refine Std.call ?_ (by with_reducible assumption) | (simp <;> omega) | omega)) (first | (go_at_call 31; refine (unhide HRC _ (unhide HRX).1.size (unhide HRY).1.size (unhide HRX).1.held (unhide HRY).1.held).mono ?_; rintro e w4 ⟨rfl, hb4⟩))
      have f4 : Below wr.heap.size wr w4 := bT (Below.drew (Below.refl _ _)) hb4
      clear HRX HRY HRC
      by_cases hc : rcmp x.2.2 y.2.2 ≤ 0
      · have HCM := hide hc
        have hc0 := (unhide HM).ha
        simp only [List.length_cons] at hc0
        obtain ⟨o3, ho3, hs3⟩ := gslice_one Ga oa la.length ca hc0
        have hcell : w4.cell? ⟨Ga, oa, none⟩ = some (rv x) := (((unhide HM).ga.of qA f4) 0 x rfl)
        unfold rv at hcell
        have HO3 := hide ho3
        clear ho3 hc0
        have HOW4 := hide (((unhide HM).own.of f4).of (bA (Below.refl w4.heap.size w4) (.cells #[rv x] 52)))
        have lt4 := Nat.lt_of_lt_of_le qA f4.size
        have hbs4 := f4.size
        have hlen := (unhide HM).len
        simp only [List.length_cons] at hlen
        go_wp2_with (at_builtin; refine wpList_append_lies _ rfl (.tmp 57) (.tmp 61) 30 rfl w2.heap.size 52 i _ 1 24 Tryz.underlying30 hi hz0 hz1 hz2 rfl (by decide) (.slice (some ⟨Go, 0, none⟩) lo.length co) lo.length (lo.map rv) rfl (unhide HOW4) ⟨w4.heap.size, 0, none⟩ 1 1 [rv x] rfl rfl (World.news_of_block (w := (w4.alloc (.cells #[rv x] 52))) (cs := #[rv x]) (MapKept.heap_alloc w4 _).1) (by intro u hu; simp at hu; subst hu; rfl) (by decide) (by unfold maxLen; omega) (by omega) (by simp; omega) _ rfl ?_; intro g2 cap2 w5 hown2 hgrow hat hlt2)
        have e2' : Below w2.heap.size w4 w5 := Below.grown ((Below.refl w2.heap.size w4).alloc (by omega) _) hgrow (by show w2.heap.size ≤ (w4.alloc _).heap.size; simp; omega) (fun k9 hk9 => by
          have e9 : Go = k9 := by simpa [Value.ownBlock] using hk9
          omega)
        have HNEW : Hid (Mst (A ++ B) RES w2.heap.size Ga Gb w2 w5 (la) (y :: lb) (lo ++ [x]) o3 (ca - 1) ob cb g2 cap2) := by
          have h1' := (unhide HM).ha
          have h2' := (unhide HM).hb
          simp only [List.length_cons] at h1' h2'
          refine ⟨(((unhide HM).ga.of qA f4).tail1 (unhide HO3)).ofB lA e2', ((unhide HM).gb.of qB f4).ofB lB e2', ?_, ?_, ?_, ?_, ?_, ?_, ?_, (hlow.trans (f4.mono hbs)).trans e2'⟩
          · show OwnG _ _ _ _ _
            unfold OwnG
            rw [show (lo ++ [x]).length = lo.length + 1 by simp, List.map_append]
            exact hown2
          · first | omega | (simp only [List.length_cons]; omega)
          · first | omega | (simp only [List.length_cons]; omega)
          · exact fun r hr => (unhide HM).ma r (by first | exact hr | exact List.mem_cons_of_mem _ hr)
          · exact fun r hr => (unhide HM).mb r (by first | exact hr | exact List.mem_cons_of_mem _ hr)
          · first | (simp; omega) | (simp at hlen ⊢; omega)
          · rw [← (unhide HM).res]; rw [mrgF_left (unhide HCM)]; simp
        clear hown2 hgrow hat e2' HOW4 HO3 HM hcell
        go_wp2
        go_roundw
        case rel => exact ⟨la, y :: lb, lo ++ [x], o3, (ca - 1), ob, cb, g2, cap2, rfl, rfl, by simp, HNEW.out⟩
        case measure => simp [lenOf]
      · have HCM := hide hc
        have hc0 := (unhide HM).hb
        simp only [List.length_cons] at hc0
        obtain ⟨o3, ho3, hs3⟩ := gslice_one Gb ob lb.length cb hc0
        have hcell : w4.cell? ⟨Gb, ob, none⟩ = some (rv y) := (((unhide HM).gb.of qB f4) 0 y rfl)
        unfold rv at hcell
        have HO3 := hide ho3
        clear ho3 hc0
        have HOW4 := hide (((unhide HM).own.of f4).of (bA (Below.refl w4.heap.size w4) (.cells #[rv y] 52)))
        have lt4 := Nat.lt_of_lt_of_le qB f4.size
        have hbs4 := f4.size
        have hlen := (unhide HM).len
        simp only [List.length_cons] at hlen
        go_wp2_with (at_builtin; refine wpList_append_lies _ rfl (.tmp 65) (.tmp 69) 30 rfl w2.heap.size 52 i _ 1 24 Tryz.underlying30 hi hz0 hz1 hz2 rfl (by decide) (.slice (some ⟨Go, 0, none⟩) lo.length co) lo.length (lo.map rv) rfl (unhide HOW4) ⟨w4.heap.size, 0, none⟩ 1 1 [rv y] rfl rfl (World.news_of_block (w := (w4.alloc (.cells #[rv y] 52))) (cs := #[rv y]) (MapKept.heap_alloc w4 _).1) (by intro u hu; simp at hu; subst hu; rfl) (by decide) (by unfold maxLen; omega) (by omega) (by simp; omega) _ rfl ?_; intro g2 cap2 w5 hown2 hgrow hat hlt2)
        have e2' : Below w2.heap.size w4 w5 := Below.grown ((Below.refl w2.heap.size w4).alloc (by omega) _) hgrow (by show w2.heap.size ≤ (w4.alloc _).heap.size; simp; omega) (fun k9 hk9 => by
          have e9 : Go = k9 := by simpa [Value.ownBlock] using hk9
          omega)
        have HNEW : Hid (Mst (A ++ B) RES w2.heap.size Ga Gb w2 w5 (x :: la) (lb) (lo ++ [y]) oa ca o3 (cb - 1) g2 cap2) := by
          have h1' := (unhide HM).ha
          have h2' := (unhide HM).hb
          simp only [List.length_cons] at h1' h2'
          refine ⟨((unhide HM).ga.of qA f4).ofB lA e2', (((unhide HM).gb.of qB f4).tail1 (unhide HO3)).ofB lB e2', ?_, ?_, ?_, ?_, ?_, ?_, ?_, (hlow.trans (f4.mono hbs)).trans e2'⟩
          · show OwnG _ _ _ _ _
            unfold OwnG
            rw [show (lo ++ [y]).length = lo.length + 1 by simp, List.map_append]
            exact hown2
          · first | omega | (simp only [List.length_cons]; omega)
          · first | omega | (simp only [List.length_cons]; omega)
          · exact fun r hr => (unhide HM).ma r (by first | exact hr | exact List.mem_cons_of_mem _ hr)
          · exact fun r hr => (unhide HM).mb r (by first | exact hr | exact List.mem_cons_of_mem _ hr)
          · first | (simp; omega) | (simp at hlen ⊢; omega)
          · rw [← (unhide HM).res]; rw [mrgF_right (unhide HCM)]; simp
        clear hown2 hgrow hat e2' HOW4 HO3 HM hcell
        go_wp2
        go_roundw
        case rel => exact ⟨x :: la, lb, lo ++ [y], oa, ca, o3, (cb - 1), g2, cap2, rfl, rfl, by simp, HNEW.out⟩
        case measure => simp [lenOf]
theorem ssort_calls (n : Nat) : SSortSaid n := by
  induction n with
  | zero =>
    intro rs G off cap w hn _ _ _ _ _ _
    obtain rfl : rs = [] := List.eq_nil_of_length_eq_zero (by omega)
    exact ssort_zero 0 G off cap w
  | succ n ih => exact ssort_step n ih
end Go.Proofs.YtbbjhepagkkjeaaGreatDoor
namespace Go.Proofs.YtbbjhepagkkjeaaGreatDoor
open Go Go.RowKit
end Go.Proofs.YtbbjhepagkkjeaaGreatDoor
namespace Go.Proofs.YtbbjhepagkkjeaaGreatDoor
open Go
end Go.Proofs.YtbbjhepagkkjeaaGreatDoor
namespace Go.Proofs.YtbbjhepagkkjeaaGreatDoor
open Go
def aggX (p : Pn) : List O2 := if p.M = 1 then [(1, 1)] else p.Ex
def noneP (m : Int) : V2 := if m = 3 ∨ m = 4 then (true, 0) else (false, 0)
end Go.Proofs.YtbbjhepagkkjeaaGreatDoor
namespace Go.Proofs.YtbbjhepagkkjeaaGreatDoor
open Go Go.RowKit
structure Tabs (w : World) : Prop where
  tk : TTakes w
  v : TVal w
  n : TNot w
  a : TAnd w
  o : TOr w
  c : TCmp w
theorem Tabs.of {w w1 : World} (h : Tabs w) (hb : Below w.heap.size w w1) : Tabs w1 := ⟨h.tk.of hb, h.v.of hb, h.n.of hb, h.a.of hb, h.o.of hb, h.c.of hb⟩
theorem Ends.pre {B0 : Nat} {M : Nat → Prop} {W W1 : World} {D F : (Nat → Prop) → World → Prop} {e : Ending} {W' : World} (h : Ends B0 M W1 D F e W') (hb : Below W.heap.size W W1) : Ends B0 M W D F e W' := by
  obtain ⟨M', b, h1, h2, h3⟩ := h
  exact ⟨M', b, h1, (GV.ofBelow hb).trans h2, h3⟩
structure BoxAt (W : World) (M : Nat → Prop) (b : Nat) (vs : List Value) : Prop where
  lt : b < W.heap.size
  out : ¬ M b
  cell : ∀ i v, vs[i]? = some v → W.cell? ⟨b, i, none⟩ = some v
theorem BoxAt.gv {W W' : World} {M M' : Nat → Prop} {b : Nat} {vs : List Value} (h : BoxAt W M b vs) (hg : GV M W M' W') : BoxAt W' M' b vs :=
  ⟨(hg.stays h.lt h.out).1, (hg.stays h.lt h.out).2.1, fun i v hv => (hg.cell h.lt h.out i).trans (h.cell i v hv)⟩
theorem BoxAt.of {W W' : World} {M : Nat → Prop} {b : Nat} {vs : List Value} (h : BoxAt W M b vs) (hb : Below W.heap.size W W') : BoxAt W' M b vs := h.gv (GV.ofBelow hb)
theorem BoxAt.made {B0 : Nat} {W : World} {M : Nat → Prop} (hL : Low B0 M W) (C : Array Value) (t : TypeId) : BoxAt (W.alloc (.cells C t)) M W.heap.size C.toList :=
  ⟨by simp, fun h => by have := (hL _ h).2; omega, fun i v hv => by rw [World.cell?_alloc_at C t _ i rfl]; simpa using hv⟩
end Go.Proofs.YtbbjhepagkkjeaaGreatDoor
