import Derived.Test.YtbbjhepagkkjeaaGreatDoorQ4
import Derived.Test.YtbbjhepagkkjeaaGreatDoorQ2
import Derived.Deep.RegionHeld3
import Derived.Deep.DeepCutAuto
import Derived.Test.YtbbjhepagkkjeaaGreatDoorQ3
namespace Go.Proofs.YtbbjhepagkkjeaaGreatDoor
open Go Go.RowKit
def lenOf : Value → Nat
  | .slice _ n _ => n
  | _ => 0
theorem mrgF_left {x y : R3} {a b : List R3} (h : rcmp x.2.2 y.2.2 ≤ 0) : mrgF kR ((x :: a).length + (y :: b).length) (x :: a) (y :: b) = x :: mrgF kR (a.length + (y :: b).length) a (y :: b) := by
  rw [show (x :: a).length + (y :: b).length = (a.length + (y :: b).length) + 1 by simp; omega, mrgF, if_pos h]
theorem mrgF_right {x y : R3} {a b : List R3} (h : ¬ rcmp x.2.2 y.2.2 ≤ 0) : mrgF kR ((x :: a).length + (y :: b).length) (x :: a) (y :: b) = y :: mrgF kR ((x :: a).length + b.length) (x :: a) b := by
  rw [show (x :: a).length + (y :: b).length = ((x :: a).length + b.length) + 1 by simp; omega, mrgF, if_neg h]
structure Mst (rs RES : List R3) (BASE Ga Gb : Nat) (w2 wr : World) (la lb lo : List R3) (oa ca ob cb Go co : Nat) : Prop where
  ga : GridAt wr Ga oa la
  gb : GridAt wr Gb ob lb
  own : OwnG wr BASE Go co lo
  ha : la.length ≤ ca
  hb : lb.length ≤ cb
  ma : ∀ r ∈ la, r ∈ rs
  mb : ∀ r ∈ lb, r ∈ rs
  len : lo.length + la.length + lb.length = rs.length
  res : lo ++ mrgF kR (la.length + lb.length) la lb = RES
  low : Below BASE w2 wr
theorem GridAt.ofB {w w1 : World} {G off B : Nat} {rs : List R3} (h : GridAt w G off rs) (hG : G < B) (hb : Below B w w1) : GridAt w1 G off rs := fun i r hr => (hb.cell (p := ⟨G, off + i, none⟩) hG).trans (h i r hr)
theorem GridAt.tail1 {w : World} {G off o : Nat} {x : R3} {l : List R3} (h : GridAt w G off (x :: l)) (ho : 0 < l.length → o = off + 1) : GridAt w G o l := fun i r hr => by
  have hi := (List.getElem?_eq_some_iff.1 hr).1
  have := h (i + 1) r (by simpa using hr)
  rw [ho (by omega), show off + 1 + i = off + (i + 1) from by omega]
  exact this
theorem not_nil {a : Addr} {n c : Nat} (h : Value.slice (some a) n c = .slice none 0 0) : False := by simp at h
theorem own_form {w : World} {B n : Nat} {v : Value} {xs : List R3} (h : w.ownsRow B 52 1 v n (xs.map rv)) (hn : v ≠ .slice none 0 0) : ∃ g cap, v = .slice (some ⟨g, 0, none⟩) n cap ∧ n = xs.length := by
  have hl := h.1
  rcases h.2 with ⟨h1, _⟩ | ⟨g, cap, cur, h1, _⟩
  · exact absurd h1 hn
  · exact ⟨g, cap, h1, by simpa using hl.symm⟩
set_option maxRecDepth 100000 in
set_option maxHeartbeats 2000000 in
theorem sorted_step (n : Nat) (ih : SortedSaid n) : SortedSaid (n + 1) := by
  intro rs G off cap w hn hG hr hro hcap hb1 hb2
  by_cases hl : rs.length < 2
  · exact sorted_small (n + 1) rs G off cap w hl hG hr
  have hl' : ¬ (rs.length : Int) < 2 := by omega
  obtain ⟨h, hh⟩ : ∃ h, h = rs.length / 2 := ⟨_, rfl⟩
  have hh1 : 1 ≤ h := by omega
  have hh2 : h < rs.length := by omega
  obtain ⟨o2, ho2, hsl⟩ := gslice_low G off rs.length cap h (by omega) hcap
  rw [ho2 hh2] at hsl
  clear ho2
  have hsh := gslice_high G off rs.length cap h (by omega)
  have IH1 : ∀ w1 : World, Below w.heap.size w w1 → Calls Tryz.prog 62 #[.slice (some ⟨G, off, none⟩) h cap, .func (Fn.func 63) #[] #[]] w1 fun e w' => ∃ G' cap', e = .returned (.slice (some ⟨G', 0, none⟩) h cap') ∧ OwnG w' w1.heap.size G' cap' (msF kR n (rs.take h)) ∧ Below w1.heap.size w1 w' := by
    intro w1 hb
    have := ih (rs.take h) G off cap w1 (by simp; omega) (Nat.lt_of_lt_of_le hG hb.size) ((hr.of hG hb).take h) ((hro.of hb).sub (fun r hr => List.mem_of_mem_take hr)) (by simp; omega) (by simp; omega) (fun r hr => hb2 r (List.mem_of_mem_take hr))
    rw [show (rs.take h).length = h by simp; omega] at this
    exact this
  have IH2 : ∀ w1 : World, Below w.heap.size w w1 → Calls Tryz.prog 62 #[.slice (some ⟨G, off + h, none⟩) (rs.length - h) (cap - h), .func (Fn.func 63) #[] #[]] w1 fun e w' => ∃ G' cap', e = .returned (.slice (some ⟨G', 0, none⟩) (rs.length - h) cap') ∧ OwnG w' w1.heap.size G' cap' (msF kR n (rs.drop h)) ∧ Below w1.heap.size w1 w' := by
    intro w1 hb
    have := ih (rs.drop h) G (off + h) (cap - h) w1 (by simp; omega) (Nat.lt_of_lt_of_le hG hb.size) ((hr.of hG hb).drop h) ((hro.of hb).sub (fun r hr => List.mem_of_mem_drop hr)) (by simp; omega) (by simp; omega) (fun r hr => hb2 r (List.mem_of_mem_drop hr))
    rw [show (rs.drop h).length = rs.length - h by simp] at this
    exact this
  have HRES : Hid (msF kR (n + 1) rs = mrgF kR rs.length (msF kR n (rs.take h)) (msF kR n (rs.drop h))) := by
    show _ = _
    simp only [msF]
    rw [if_neg hl, ← hh]
  have hA : (msF kR n (rs.take h)).length = h := by rw [msF_length]; simp; omega
  have hB : (msF kR n (rs.drop h)).length = rs.length - h := by rw [msF_length]; simp
  have mA : ∀ r ∈ msF kR n (rs.take h), r ∈ rs := fun r hr => List.mem_of_mem_take ((msF_perm kR n _).mem_iff.1 hr)
  have mB : ∀ r ∈ msF kR n (rs.drop h), r ∈ rs := fun r hr => List.mem_of_mem_drop ((msF_perm kR n _).mem_iff.1 hr)
  generalize msF kR n (rs.take h) = A at *
  generalize msF kR n (rs.drop h) = B at *
  have H1 := hide IH1; have H2 := hide IH2; have HA := hide hA; have HB := hide hB
  have hdiv : (rs.length : Int) / 2 = (h : Int) := by omega
  have hdiv2 : (rs.length : Int).tdiv 2 = (h : Int) := by rw [Int.tdiv_eq_ediv_of_nonneg (by omega)]; exact hdiv
  clear IH1 IH2 hA hB hh
  go_enter Tryz.func62, Tryz.ntmps62
  go_upto_region 4 with fail
  go_region_held3 (Std w) (repeat (first | with_reducible assumption | with_reducible exact Std.refl _ | with_reducible refine Std.drew ?_ | with_reducible refine Std.alloc ?_ _ | with_reducible refine Std.setCell ?_ ?_ _ | with_reducible refine Std.call ?_ (by with_reducible assumption) | (simp <;> omega) | omega)) (first
    | (go_at_call_of 62 (Value.slice (some ⟨G, off, none⟩) h cap); refine (unhide H1 _ (by exact Below.drew (Below.refl _ _))).mono ?_; rintro e w1 ⟨Ga, ca, rfl, hoa, hba⟩)
    | (go_at_call_of 62 (Value.slice (some ⟨G, off + h, none⟩) (rs.length - h) (cap - h)); refine (unhide H2 _ (by exact bT (Below.drew (Below.refl _ _)) hba)).mono ?_; rintro e w2 ⟨Gb, cb, rfl, hob, hbb⟩))
  have d1 := bT (Below.drew (Below.refl w.heap.size w)) hba
  have d2 := bT d1 hbb
  have gA : GridAt w2 Ga 0 A := (hoa.of hbb).grid
  have gB : GridAt w2 Gb 0 B := hob.grid
  have lA : Ga < w2.heap.size := (hoa.of hbb).lt.1
  have lB : Gb < w2.heap.size := hob.lt.1
  have cA := hoa.lt.2.2.1
  have cB := hob.lt.2.2.1
  rw [unhide HA] at cA
  rw [unhide HB] at cB
  have hmk := make_room rs.length hb1
  have HM : Hid (Mst rs (mrgF kR rs.length A B) w2.heap.size Ga Gb w2 (w2.alloc (.cells (madeCells #[.slice none 0 0] rs.length) 52)) A B [] 0 ca 0 cb w2.heap.size rs.length) := by
    have hal := bA (Below.refl w2.heap.size w2) (.cells (madeCells #[.slice none 0 0] rs.length) 52)
    exact ⟨gA.of lA hal, gB.of lB hal, OwnG.room w2 rs.length hb1, by rw [unhide HA]; exact cA, by rw [unhide HB]; exact cB, mA, mB, by rw [unhide HA, unhide HB]; simp; omega, by rw [unhide HA, unhide HB, show h + (rs.length - h) = rs.length by omega]; rfl, hal⟩
  clear hoa hob hba hbb H1 H2 gA gB mA mB hsl hsh
  go_wp2
  go_loopw [6, 7, 8] (fun s6 s7 s8 wr => ∃ (la lb lo : List R3) (oa ca ob cb Go co : Nat), s6 = .slice (some ⟨Ga, oa, none⟩) la.length ca ∧ s7 = .slice (some ⟨Gb, ob, none⟩) lb.length cb ∧ s8 = .slice (some ⟨Go, 0, none⟩) lo.length co ∧ Mst rs (mrgF kR rs.length A B) w2.heap.size Ga Gb w2 wr la lb lo oa ca ob cb Go co) (fun s6 s7 _ _ => lenOf s6 + lenOf s7)
  case atStart => exact ⟨A, B, [], 0, ca, 0, cb, _, _, by rw [unhide HA], by rw [unhide HB], rfl, HM.out⟩
  case round =>
    clear HM hmk cA cB HA HB
    obtain ⟨la, lb, lo, oa, ca, ob, cb, Go, co, rfl, rfl, rfl, hM⟩ := hrel
    have HM := hide hM
    have hlow := hM.low
    have dr := d2.trans (hlow.mono d2.size)
    clear hM
    obtain ⟨i, hi, hz⟩ := Option.map_eq_some_iff.1 (show (Tryz.prog.info? 52).map (fun i => (i.zero, i.size, i.bytes)) = some (some (.slice none 0 0), 1, 24) by kernel_rfl)
    simp only [Prod.mk.injEq] at hz
    obtain ⟨hz0, hz1, hz2⟩ := hz
    rcases la with _ | ⟨x, la⟩
    · have HGA := hide (unhide HM).ga; have HGB := hide (unhide HM).gb; have HOW := hide (unhide HM).own
      have hlen := (unhide HM).len
      have HRS : Hid (lo ++ [] ++ lb = mrgF kR rs.length A B) := by
        show _ = _
        rw [← (unhide HM).res]
        simp [mrgF_nil_left]
      simp only [List.length_nil] at hlen
      have hbase := hlow.size
      clear HM
      go_wp2_with (first
        | (at_builtin; refine wpList_append_own _ rfl (.tmp 63) (.tmp 64) 30 rfl w2.heap.size 52 i _ 1 24 Tryz.underlying30 hi hz0 hz1 hz2 rfl (by decide) (.slice (some ⟨Go, 0, none⟩) lo.length co) lo.length (lo.map rv) rfl (unhide HOW) ⟨Ga, oa, none⟩ _ ca (([] : List R3).map rv) rfl (by simp) (news_grid (unhide HGA)) (one_rv _) (by unfold maxLen; first | omega | (simp <;> omega)) (by first | omega | (simp <;> omega)) hbase ?_; intro v1 wa hown1 hgrow1 hnn1; have hlw : Below w2.heap.size wr wa := (Below.refl _ _).grown hgrow1 hbase (fun k hk => by have e9 : Go = k := (by simpa [Value.ownBlock] using hk); have := (unhide HOW).lt; omega); have hgb1 := (unhide HGB).ofB lB hlw; have hsz1 := hlw.size; have hown1' : wa.ownsRow w2.heap.size 52 1 v1 _ ((lo ++ []).map rv) := (by rw [List.map_append]; exact hown1); obtain ⟨g1, c1, hv1, hn1⟩ := own_form hown1' (fun h => absurd (hnn1.1 h).1 (by simp)); subst hv1; have HO1 := hide hown1'; have HG1 := hide hgb1; have HL1 := hide hlw; clear hown1 hown1' hgrow1 hnn1 hgb1 hlw hn1)
        | (at_builtin; refine wpList_append_own _ rfl (.tmp 65) (.tmp 66) 30 rfl w2.heap.size 52 i _ 1 24 Tryz.underlying30 hi hz0 hz1 hz2 rfl (by decide) _ _ _ rfl (unhide HO1) ⟨Gb, ob, none⟩ _ cb ((lb : List R3).map rv) rfl (by simp) (news_grid (unhide HG1)) (one_rv _) (by unfold maxLen; first | omega | (simp <;> omega)) (by first | omega | (simp <;> omega)) (by omega) ?_; intro v2 wb hown2 hgrow2 hnn2))
      have hlw2 : Below w2.heap.size w2 wb := (hlow.trans (unhide HL1)).grown (show wa.grownBy wb (some g1) from hgrow2) (by omega) (fun k hk => by
        have e : g1 = k := by simpa using hk
        rcases (unhide HO1).2 with ⟨h1, _⟩ | ⟨g', cap', cur, h1, h2, _⟩
        · simp at h1
        · simp only [Value.slice.injEq, Option.some.injEq, Addr.mk.injEq, and_true] at h1
          omega)
      have hown2' := hown2
      rw [← List.map_append] at hown2'
      obtain ⟨g2, c2, hv2, hn2⟩ := own_form hown2' (fun h => not_nil (hnn2.1 h).1)
      subst hv2
      rw [HRS.out, ← HRES.out] at hown2' hn2
      have hN : (msF kR (n + 1) rs).length = rs.length := msF_length kR _ _
      rw [hn2, hN] at hown2' ⊢
      have HFIN : Hid (OwnG wb w.heap.size g2 c2 (msF kR (n + 1) rs)) := by
        show OwnG _ _ _ _ _
        refine OwnG.mono (B := w2.heap.size) ?_ d2.size
        unfold OwnG
        rw [hN]
        exact hown2'
      go_ret
      exact ⟨g2, c2, rfl, HFIN.out, d2.trans (hlw2.mono d2.size)⟩
    · rcases lb with _ | ⟨y, lb⟩
      · have HGA := hide (unhide HM).ga; have HGB := hide (unhide HM).gb; have HOW := hide (unhide HM).own
        have hlen := (unhide HM).len
        have HRS : Hid (lo ++ (x :: la) ++ [] = mrgF kR rs.length A B) := by
          show _ = _
          rw [← (unhide HM).res]
          simp [mrgF_nil_right]
        simp only [List.length_cons, List.length_nil] at hlen
        have hbase := hlow.size
        clear HM
        go_wp2_with (first
          | (at_builtin; refine wpList_append_own _ rfl (.tmp 63) (.tmp 64) 30 rfl w2.heap.size 52 i _ 1 24 Tryz.underlying30 hi hz0 hz1 hz2 rfl (by decide) (.slice (some ⟨Go, 0, none⟩) lo.length co) lo.length (lo.map rv) rfl (unhide HOW) ⟨Ga, oa, none⟩ _ ca ((x :: la : List R3).map rv) rfl (by simp) (news_grid (unhide HGA)) (one_rv _) (by unfold maxLen; first | omega | (simp <;> omega)) (by first | omega | (simp <;> omega)) hbase ?_; intro v1 wa hown1 hgrow1 hnn1; have hlw : Below w2.heap.size wr wa := (Below.refl _ _).grown hgrow1 hbase (fun k hk => by have e9 : Go = k := (by simpa [Value.ownBlock] using hk); have := (unhide HOW).lt; omega); have hgb1 := (unhide HGB).ofB lB hlw; have hsz1 := hlw.size; have hown1' : wa.ownsRow w2.heap.size 52 1 v1 _ ((lo ++ (x :: la)).map rv) := (by rw [List.map_append]; exact hown1); obtain ⟨g1, c1, hv1, hn1⟩ := own_form hown1' (fun h => absurd (hnn1.1 h).1 (by simp)); subst hv1; have HO1 := hide hown1'; have HG1 := hide hgb1; have HL1 := hide hlw; clear hown1 hown1' hgrow1 hnn1 hgb1 hlw hn1)
          | (at_builtin; refine wpList_append_own _ rfl (.tmp 65) (.tmp 66) 30 rfl w2.heap.size 52 i _ 1 24 Tryz.underlying30 hi hz0 hz1 hz2 rfl (by decide) _ _ _ rfl (unhide HO1) ⟨Gb, ob, none⟩ _ cb (([] : List R3).map rv) rfl (by simp) (news_grid (unhide HG1)) (one_rv _) (by unfold maxLen; first | omega | (simp <;> omega)) (by first | omega | (simp <;> omega)) (by omega) ?_; intro v2 wb hown2 hgrow2 hnn2))
        have hlw2 : Below w2.heap.size w2 wb := (hlow.trans (unhide HL1)).grown (show wa.grownBy wb (some g1) from hgrow2) (by omega) (fun k hk => by
          have e : g1 = k := by simpa using hk
          rcases (unhide HO1).2 with ⟨h1, _⟩ | ⟨g', cap', cur, h1, h2, _⟩
          · simp at h1
          · simp only [Value.slice.injEq, Option.some.injEq, Addr.mk.injEq, and_true] at h1
            omega)
        have hown2' := hown2
        rw [← List.map_append] at hown2'
        obtain ⟨g2, c2, hv2, hn2⟩ := own_form hown2' (fun h => not_nil (hnn2.1 h).1)
        subst hv2
        rw [HRS.out, ← HRES.out] at hown2' hn2
        have hN : (msF kR (n + 1) rs).length = rs.length := msF_length kR _ _
        rw [hn2, hN] at hown2' ⊢
        have HFIN : Hid (OwnG wb w.heap.size g2 c2 (msF kR (n + 1) rs)) := by
          show OwnG _ _ _ _ _
          refine OwnG.mono (B := w2.heap.size) ?_ d2.size
          unfold OwnG
          rw [hN]
          exact hown2'
        go_ret
        exact ⟨g2, c2, rfl, HFIN.out, d2.trans (hlw2.mono d2.size)⟩
      · have hx := (unhide HM).ga 0 x rfl
        have hy := (unhide HM).gb 0 y rfl
        have hlen := (unhide HM).len
        have hca := (unhide HM).ha
        have hcb := (unhide HM).hb
        simp only [List.length_cons, Nat.add_zero] at hlen hca hcb hx hy
        have mx : x ∈ rs := (unhide HM).ma x (by simp)
        have my : y ∈ rs := (unhide HM).mb y (by simp)
        have rx := (hro.of (Below.drew dr)) x mx
        have ry := (hro.of (Below.drew dr)) y my
        have bx := hb2 x mx
        have by' := hb2 y my
        unfold rv at hx hy
        have RC := fun w h1 h2 h3 h4 => RowCmp_calls x.2.2 y.2.2 x.1 0 x.2.1 y.1 0 y.2.1 w h1 h2 h3 h4 bx by'
        have qA : Ga < wr.heap.size := Nat.lt_of_lt_of_le lA hlow.size
        have qB : Gb < wr.heap.size := Nat.lt_of_lt_of_le lB hlow.size
        have HRX := hide rx; have HRY := hide ry; have HRC := hide RC
        clear rx ry RC bx by'
        have e1 : (0 : Int) < (la.length : Int) + 1 := by omega
        have e2 : (0 : Int) < (lb.length : Int) + 1 := by omega
        go_upto_region 7 with fail
        have h1 := Below.refl wr.heap.size wr
        have h2 := h1
        go_region_held3 (Std wr) (repeat (first | with_reducible assumption | with_reducible exact Std.refl _ | with_reducible refine Std.drew ?_ | with_reducible refine Std.alloc ?_ _ | with_reducible refine Std.setCell ?_ ?_ _ | with_reducible refine Std.call ?_ (by with_reducible assumption) | (simp <;> omega) | omega)) (first | (go_at_call 63; refine (unhide HRC _ (unhide HRX).1.size (unhide HRY).1.size (unhide HRX).1.held (unhide HRY).1.held).mono ?_; rintro e w4 ⟨rfl, hb4⟩))
        have f4 : Below wr.heap.size wr w4 := bT (Below.drew (Below.refl _ _)) hb4
        have gl4 := (unhide HM).ga.of qA f4
        have gr4 := (unhide HM).gb.of qB f4
        have HOW4 := hide ((unhide HM).own.of f4)
        have lt4 := Nat.lt_of_lt_of_le qA f4.size
        have lt4b := Nat.lt_of_lt_of_le qB f4.size
        have hGo := (unhide HM).own.lt
        have hbs := hlow.size
        have hbs4 := f4.size
        by_cases hc : rcmp x.2.2 y.2.2 ≤ 0
        · obtain ⟨o3, ho3, hs3⟩ := gslice_one Ga oa la.length ca hca
          have hcell : w4.cell? ⟨Ga, oa, none⟩ = some (rv x) := (gl4 0 x rfl)
          unfold rv at hcell
          have hcell' := hcell
          have HO3 := hide ho3
          clear ho3
          go_upto_region 8 with fail
          go_region_held3 (fun w' : World => w'.cell? ⟨Ga, oa, none⟩ = some (.slice (some ⟨x.1, 0, none⟩) x.2.2.length x.2.1) ∧ Ga < w'.heap.size) (first | with_reducible assumption | exact ⟨hcell', lt4⟩ | exact ⟨(World.cell?_alloc_past (w := w4) _ Ga oa lt4).trans hcell', Nat.lt_of_lt_of_le lt4 (by show w4.heap.size ≤ (w4.alloc _).heap.size; simp)⟩ | exact ⟨(hgrow.cell_far ⟨Ga, oa, none⟩ (Nat.lt_of_lt_of_le lt4 (by show w4.heap.size ≤ (w4.alloc _).heap.size; simp)) (by intro e9; have e8 := Option.some.inj e9; simp at e8; omega)).trans ((World.cell?_alloc_past (w := w4) _ Ga oa lt4).trans hcell'), Nat.lt_of_lt_of_le (Nat.lt_of_lt_of_le lt4 (by show w4.heap.size ≤ (w4.alloc _).heap.size; simp)) hgrow.size⟩)
            (first | (refine step_append_lies _ rfl (.tmp 47) (.tmp 51) 30 rfl w2.heap.size 52 i _ 1 24 Tryz.underlying30 hi hz0 hz1 hz2 rfl (by decide) (.slice (some ⟨Go, 0, none⟩) lo.length co) lo.length (lo.map rv) rfl ((unhide HOW4).of (Below.drew (bA (Below.refl w4.heap.size w4) _))) ⟨w4.heap.size, 0, none⟩ 1 1 [rv x] rfl rfl (World.news_of_block (w := (w4.alloc (.cells #[rv x] 52)).drew) (cs := #[rv x]) (MapKept.heap_alloc w4 _).1) (by intro u hu; simp at hu; subst hu; rfl) (by decide) (by unfold maxLen; omega) (by omega) (by simp; omega) _ rfl ?_; intro g2 cap2 w5 hown2 hgrow hat hlt2))
          have e2 : Below w2.heap.size w4 w5 := Below.grown (Below.drew ((Below.refl w2.heap.size w4).alloc (by omega) _)) hgrow (by show w2.heap.size ≤ (w4.alloc _).heap.size; simp; omega) (fun k9 hk9 => by
            have e9 : Go = k9 := by simpa [Value.ownBlock] using hk9
            omega)
          have HNEW : Hid (Mst rs (mrgF kR rs.length A B) w2.heap.size Ga Gb w2 w5 la (y :: lb) (lo ++ [x]) o3 (ca - 1) ob cb g2 cap2) := by
            refine ⟨(gl4.tail1 (unhide HO3)).ofB lA e2, gr4.ofB lB e2, ?_, ?_, ?_, ?_, ?_, ?_, ?_, (hlow.trans (f4.mono hbs)).trans e2⟩
            · show OwnG _ _ _ _ _
              unfold OwnG
              rw [show (lo ++ [x]).length = lo.length + 1 by simp, List.map_append]
              exact hown2
            · first | omega | (simp only [List.length_cons]; omega)
            · first | omega | (simp only [List.length_cons]; omega)
            · exact fun r hr => (unhide HM).ma r (by first | exact hr | exact List.mem_cons_of_mem _ hr)
            · exact fun r hr => (unhide HM).mb r (by first | exact hr | exact List.mem_cons_of_mem _ hr)
            · simp; omega
            · rw [← (unhide HM).res, mrgF_left hc]; simp
          clear hown2 hgrow hat e2 gl4 gr4 HOW4 HO3 HM HRX HRY HRC hcell hcell'
          go_wp2
          go_roundw
          case rel => exact ⟨la, (y :: lb), lo ++ [x], o3, (ca - 1), ob, cb, g2, cap2, rfl, rfl, by simp, HNEW.out⟩
          case measure => simp [lenOf]
        · obtain ⟨o3, ho3, hs3⟩ := gslice_one Gb ob lb.length cb hcb
          have hcell : w4.cell? ⟨Gb, ob, none⟩ = some (rv y) := (gr4 0 y rfl)
          unfold rv at hcell
          have hcell' := hcell
          have HO3 := hide ho3
          clear ho3
          go_upto_region 9 with fail
          go_region_held3 (fun w' : World => w'.cell? ⟨Gb, ob, none⟩ = some (.slice (some ⟨y.1, 0, none⟩) y.2.2.length y.2.1) ∧ Gb < w'.heap.size) (first | with_reducible assumption | exact ⟨hcell', lt4b⟩ | exact ⟨(World.cell?_alloc_past (w := w4) _ Gb ob lt4b).trans hcell', Nat.lt_of_lt_of_le lt4b (by show w4.heap.size ≤ (w4.alloc _).heap.size; simp)⟩ | exact ⟨(hgrow.cell_far ⟨Gb, ob, none⟩ (Nat.lt_of_lt_of_le lt4b (by show w4.heap.size ≤ (w4.alloc _).heap.size; simp)) (by intro e9; have e8 := Option.some.inj e9; simp at e8; omega)).trans ((World.cell?_alloc_past (w := w4) _ Gb ob lt4b).trans hcell'), Nat.lt_of_lt_of_le (Nat.lt_of_lt_of_le lt4b (by show w4.heap.size ≤ (w4.alloc _).heap.size; simp)) hgrow.size⟩)
            (first | (refine step_append_lies _ rfl (.tmp 55) (.tmp 59) 30 rfl w2.heap.size 52 i _ 1 24 Tryz.underlying30 hi hz0 hz1 hz2 rfl (by decide) (.slice (some ⟨Go, 0, none⟩) lo.length co) lo.length (lo.map rv) rfl ((unhide HOW4).of (Below.drew (bA (Below.refl w4.heap.size w4) _))) ⟨w4.heap.size, 0, none⟩ 1 1 [rv y] rfl rfl (World.news_of_block (w := (w4.alloc (.cells #[rv y] 52)).drew) (cs := #[rv y]) (MapKept.heap_alloc w4 _).1) (by intro u hu; simp at hu; subst hu; rfl) (by decide) (by unfold maxLen; omega) (by omega) (by simp; omega) _ rfl ?_; intro g2 cap2 w5 hown2 hgrow hat hlt2))
          have e2 : Below w2.heap.size w4 w5 := Below.grown (Below.drew ((Below.refl w2.heap.size w4).alloc (by omega) _)) hgrow (by show w2.heap.size ≤ (w4.alloc _).heap.size; simp; omega) (fun k9 hk9 => by
            have e9 : Go = k9 := by simpa [Value.ownBlock] using hk9
            omega)
          have HNEW : Hid (Mst rs (mrgF kR rs.length A B) w2.heap.size Ga Gb w2 w5 (x :: la) lb (lo ++ [y]) oa ca o3 (cb - 1) g2 cap2) := by
            refine ⟨gl4.ofB lA e2, (gr4.tail1 (unhide HO3)).ofB lB e2, ?_, ?_, ?_, ?_, ?_, ?_, ?_, (hlow.trans (f4.mono hbs)).trans e2⟩
            · show OwnG _ _ _ _ _
              unfold OwnG
              rw [show (lo ++ [y]).length = lo.length + 1 by simp, List.map_append]
              exact hown2
            · first | omega | (simp only [List.length_cons]; omega)
            · first | omega | (simp only [List.length_cons]; omega)
            · exact fun r hr => (unhide HM).ma r (by first | exact hr | exact List.mem_cons_of_mem _ hr)
            · exact fun r hr => (unhide HM).mb r (by first | exact hr | exact List.mem_cons_of_mem _ hr)
            · simp; omega
            · rw [← (unhide HM).res, mrgF_right hc]; simp
          clear hown2 hgrow hat e2 gl4 gr4 HOW4 HO3 HM HRX HRY HRC hcell hcell'
          go_wp2
          go_roundw
          case rel => exact ⟨(x :: la), lb, lo ++ [y], oa, ca, o3, (cb - 1), g2, cap2, rfl, rfl, by simp, HNEW.out⟩
          case measure => simp [lenOf]
theorem sorted_calls (n : Nat) : SortedSaid n := by
  induction n with
  | zero => exact fun rs G off cap w hn hG hr _ _ _ _ => sorted_small 0 rs G off cap w (by omega) hG hr
  | succ n ih => exact sorted_step n ih
end Go.Proofs.YtbbjhepagkkjeaaGreatDoor
namespace Go.Proofs.YtbbjhepagkkjeaaGreatDoor
open Go Go.RowKit
end Go.Proofs.YtbbjhepagkkjeaaGreatDoor
namespace Go.Proofs.YtbbjhepagkkjeaaGreatDoor
open Go Go.RowKit
theorem make_rows (n : Nat) (hn : n ≤ 1048576) (w : World) :
    (Instr.makeSlice 30 (.int .i64 (n : Int)) (.int .i64 (n : Int))).run Tryz.prog w = .ok (.slice (some ⟨w.heap.size, 0, none⟩) n n) (w.alloc (.cells (madeCells #[.slice none 0 0] n) 52)) := by
  obtain ⟨i, hi, hz⟩ := Option.map_eq_some_iff.1 (show (Tryz.prog.info? 52).map (fun i => (i.zero, i.size, i.bytes)) = some (some (.slice none 0 0), 1, 24) by kernel_rfl)
  simp only [Prod.mk.injEq] at hz
  have := run_make (P := Tryz.prog) w 30 52 i _ Tryz.underlying30 hi hz.1 .i64 .i64 (n : Int) (n : Int) (by omega) (by omega) (by rw [hz.2.2]; omega) (by omega)
  rw [hz.2.1] at this
  simpa [Value.cells] using this
end Go.Proofs.YtbbjhepagkkjeaaGreatDoor
namespace Go.Proofs.YtbbjhepagkkjeaaGreatDoor
open Go Go.RowKit
end Go.Proofs.YtbbjhepagkkjeaaGreatDoor
namespace Go.Proofs.YtbbjhepagkkjeaaGreatDoor
open Go Go.RowKit
abbrev cleanR (r : R3) : List V2 := r.2.2.map clnV
end Go.Proofs.YtbbjhepagkkjeaaGreatDoor
