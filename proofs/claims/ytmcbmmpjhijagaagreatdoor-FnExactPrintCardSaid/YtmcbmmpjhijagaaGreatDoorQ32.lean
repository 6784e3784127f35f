import Derived.Test.YtmcbmmpjhijagaaGreatDoorQ31
import Derived.Test.YtmcbmmpjhijagaaGreatDoorQ3
import Derived.Deep.AppendLies
import Derived.Deep.RegionHeld3
import Derived.Deep.DeepCutAuto
namespace Go.Proofs.YtmcbmmpjhijagaaGreatDoor
open Go Go.RowKit
theorem setCell_block {w : World} {g o b : Nat} {v : Value} (h : b ≠ g) : (w.setCell ⟨g, o, none⟩ v).heap[b]? = w.heap[b]? := Below.heap_setCell w ⟨g, o, none⟩ v b h
set_option maxRecDepth 100000 in
set_option maxHeartbeats 8000000 in
theorem raise_calls (ns : List Nd) (hr : Rng ns) (hfit : ∀ (i : Nat) (n : Nd), ns[i]? = some n → FitI n (kindsOf ns n.Kids)) (hF : Fore ns) (hp : ∀ (i : Nat) (n : Nd), ns[i]? = some n → n.Kids.length ≤ 10000 ∧ ∀ x ∈ n.Kids, 0 ≤ x) (h1 : 1 ≤ ns.length) (h2 : ns.length ≤ 10000) (g cap : Nat) (w : World) (hg : g < w.heap.size) (hn : NodesAt w g 0 ns) :
    Calls Tryz.prog 15 #[.slice (some ⟨g, 0, none⟩) ns.length cap] w fun e w' => (∃ v, e = .returned v ∧ TrV ns w' (fun b => w.heap.size < b) ns.length (ns.length - 1) v) ∧ Below w.heap.size w w' := by
  have hmk := make_trees ns.length (by omega)
  have HM : Hid (VRow (w.alloc (.cells (madeCells #[.nilIface] ns.length) 42)) w.heap.size (List.replicate ns.length .nilIface)) := VRow.made w _ _ _ rfl
  have HN := hide hn; have HFit := hide hfit; have HF := hide hF; have HP := hide hp; have HR := hide hr
  clear hn hfit hF hp hr
  go_enter Tryz.func15, Tryz.ntmps15
  go_wp2
  go_loopw [14] (fun c wr => ∃ (k : Nat) (ts : List Value), k ≤ ns.length ∧ c = .int .i64 k ∧ ts.length = ns.length ∧ VRow wr w.heap.size ts ∧ Trs ns wr w.heap.size k ts ∧ Below w.heap.size w wr) (fun c _ => ns.length - (intOf c).toNat)
  case atStart => exact ⟨0, _, Nat.zero_le _, rfl, by simp, HM.out, fun j hj => by omega, bA (Below.refl _ _) _⟩
  case round =>
    rename World => wo
    clear hmk HM
    obtain ⟨k, ts, hk, rfl, htl, hrow, htrs, hb⟩ := hrel
    have hszo := hrow.size
    have HRow := hide hrow; have HTrs := hide htrs; have HB := hide hb
    clear hrow htrs hb
    have hgo : g < wo.heap.size := Nat.lt_of_lt_of_le hg (unhide HB).size
    by_cases hlt : k < ns.length
    · have hmem : ns[k]? = some ns[k] := List.getElem?_eq_getElem hlt
      obtain ⟨⟨x0, x1, x2, x3, x4⟩, kg, x5, _, hkg, hks⟩ := ((unhide HN).of hg (unhide HB)).at k hlt
      simp only [Nat.zero_add] at x0 x1 x2 x3 x4 x5
      have HFk := hide (unhide HFit k _ hmem)
      have HFo := hide (unhide HF k _ hmem)
      obtain ⟨hm, hpos⟩ := unhide HP k _ hmem
      have HPos := hide hpos
      have HKs := hide hks
      have HMem := hide hmem
      clear hpos hks hmem
      generalize ns[k] = n at *
      have j1 : (k : Int) < (ns.length : Int) := by omega
      have hmk := make_trees n.Kids.length (by omega)
      go_wp2
      go_loopw [26] (fun c wr => ∃ (q : Nat) (us : List Value), q ≤ n.Kids.length ∧ c = .int .i64 q ∧ us.length = n.Kids.length ∧ VRow wr (wo.heap.size + 1) us ∧ (∀ (j : Nat) x, j < q → n.Kids[j]? = some x → us[j]? = ts[x.toNat]?) ∧ Below wo.heap.size wo wr ∧
        wr.cell? ⟨wo.heap.size, 0, none⟩ = some (.int .i64 n.K) ∧ wr.cell? ⟨wo.heap.size, 1, none⟩ = some (.int .i64 n.N) ∧ wr.cell? ⟨wo.heap.size, 2, none⟩ = some (.int .i64 n.M) ∧ wr.cell? ⟨wo.heap.size, 3, none⟩ = some (.string n.S) ∧ wr.cell? ⟨wo.heap.size, 4, none⟩ = some (.string n.T) ∧ wr.cell? ⟨wo.heap.size, 5, none⟩ = some (.slice (some ⟨kg, 0, none⟩) n.Kids.length n.Kids.length)) (fun c _ => n.Kids.length - (intOf c).toNat)
      case atStart =>
        refine ⟨0, _, Nat.zero_le _, rfl, by simp, VRow.made _ _ _ _ (by simp), fun j x hj => by omega, bA (bA (Below.refl _ _) _) _, ?_, ?_, ?_, ?_, ?_, ?_⟩ <;> simp [go_sem]
      case round =>
        clear hmk
        obtain ⟨q, us, hq, rfl, hul, hur, hus, hbi, b0, b1, b2, b3, b4, b5⟩ := hrel
        have hszr := hur.size
        have HUr := hide hur; have HUs := hide hus; have HBi := hide hbi
        clear hur hus hbi
        by_cases hq2 : q < n.Kids.length
        · have j2 : (q : Int) < (n.Kids.length : Int) := by omega
          obtain ⟨x, hx⟩ : ∃ x, n.Kids[q]? = some x := ⟨n.Kids[q], List.getElem?_eq_getElem hq2⟩
          have hxm : x ∈ n.Kids := List.mem_of_getElem? hx
          have hx0 := unhide HPos x hxm
          have hxk := unhide HFo x hxm
          obtain ⟨p, rfl⟩ : ∃ p : Nat, x = (p : Int) := ⟨x.toNat, by omega⟩
          simp only [Int.toNat_natCast] at hxk
          have hk0 : wr.cell? ⟨kg, q, none⟩ = some (.int .i64 (p : Int)) := by
            have := unhide HKs q _ hx
            rw [Nat.zero_add] at this
            exact ((bcell (unhide HBi)).1 kg q hkg).trans this
          have hkgr : kg < wr.heap.size := by omega
          obtain ⟨v, hv, hvT⟩ := unhide HTrs p hxk
          obtain ⟨t0, u0, rfl⟩ := hvT.ifc (unhide HR)
          clear hvT
          have ht0 : wr.cell? ⟨w.heap.size, p, none⟩ = some (.iface t0 u0) := ((bcell (unhide HBi)).1 w.heap.size p hszo).trans ((unhide HRow).held p _ hv)
          have htr : w.heap.size < wr.heap.size := by omega
          have j3 : (p : Int) < (ns.length : Int) := by omega
          obtain ⟨z, hz⟩ : ∃ z, wr.cell? ⟨wo.heap.size + 1, q, none⟩ = some z := ⟨us[q]'(by omega), (unhide HUr).held q _ (List.getElem?_eq_getElem (by omega))⟩
          have hfz := (unhide HUr).frz q
          have hszo2 : wo.heap.size < wr.heap.size := by omega
          have HX := hide hx; have HV := hide hv
          clear hx hv hxm
          go_wp2
          go_roundw
          case rel =>
            refine ⟨q + 1, us.set q (.iface t0 u0), by omega, by go_num, by simpa using hul, (unhide HUr).set (by omega) _, fun j x hj hjx => ?_, (unhide HBi).setCell (by simp) _, ?_, ?_, ?_, ?_, ?_, ?_⟩
            · by_cases e : q = j
              · subst e
                rw [unhide HX] at hjx
                injection hjx with hjx
                subst hjx
                rw [List.getElem?_set_self (by omega)]
                simpa using (unhide HV).symm
              · rw [List.getElem?_set_ne e]
                exact unhide HUs j x (by omega) hjx
            all_goals (rw [setCell_farN (by omega)]; assumption)
          case measure => simp [intOf]; omega
        · obtain rfl : q = n.Kids.length := by omega
          have hszo2 : wo.heap.size < wr.heap.size := by omega
          have HCells : Hid (∀ (j : Nat) x, n.Kids[j]? = some x → ∃ t u, wr.cell? ⟨wo.heap.size + 1, j, none⟩ = some (.iface t u) ∧ TrV ns wr (fun b => w.heap.size < b) k x.toNat (.iface t u)) := fun j x hj => by
            have hj1 : j < n.Kids.length := (List.getElem?_eq_some_iff.1 hj).1
            have e1 := unhide HUs j x hj1 hj
            have hxk := unhide HFo x (List.mem_of_getElem? hj)
            obtain ⟨v, e2, e3⟩ := unhide HTrs x.toNat hxk
            rw [e2] at e1
            have e4 : TrV ns wr (fun b => w.heap.size < b) (x.toNat + 1) x.toNat v := TrV.mono (fun b h3 h4 => ⟨h3, Nat.lt_of_lt_of_le h4 (unhide HBi).size, (unhide HBi).block b h4⟩) _ _ _ e3
            obtain ⟨t, u, rfl⟩ := e4.ifc (unhide HR)
            exact ⟨t, u, (unhide HUr).held j _ e1, e4.fuel (by omega)⟩
          go_wp2_with fail
          refine (treeOf_calls (unhide HR) (unhide HFk) (by omega) hszr (S := fun b => w.heap.size < b) (by omega) (unhide HCells) _ _ _).mono ?_
          rintro e w2 ⟨⟨v, rfl, hv⟩, hb2⟩
          have hTv : TrV ns wr (fun b => w.heap.size < b) (k + 1) k v := ⟨n, unhide HMem, hv⟩
          obtain ⟨t0, u0, rfl⟩ := hTv.ifc (unhide HR)
          have HTv : Hid (TrV ns w2 (fun b => w.heap.size < b) (k + 1) k (.iface t0 u0)) := TrV.mono (fun b h3 h4 => ⟨h3, Nat.lt_of_lt_of_le h4 hb2.size, hb2.block b h4⟩) _ _ _ hTv
          have HB2 : Hid (Below wo.heap.size wo w2) := (unhide HBi).trans (hb2.mono (by omega))
          have hsz2 : w.heap.size < w2.heap.size := Nat.lt_of_lt_of_le hszo (unhide HB2).size
          clear hv hTv hb2
          have HRow2 := hide ((unhide HRow).of hszo (unhide HB2))
          obtain ⟨z, hz⟩ : ∃ z, w2.cell? ⟨w.heap.size, k, none⟩ = some z := ⟨ts[k]'(by omega), (unhide HRow2).held k _ (List.getElem?_eq_getElem (by omega))⟩
          have hfz := (unhide HRow2).frz k
          go_wp2
          go_roundw
          case rel =>
            refine ⟨k + 1, ts.set k (.iface t0 u0), by omega, by go_num, by simpa using htl, (unhide HRow2).set (by omega) _, fun j hj => ?_, ((unhide HB).trans ((unhide HB2).mono (unhide HB).size)).setCell (Nat.le_refl _) _⟩
            by_cases e : k = j
            · subst e
              exact ⟨_, List.getElem?_set_self (by omega), TrV.mono (fun b h3 h4 => ⟨h3, by simpa using h4, setCell_block (by omega)⟩) _ _ _ (unhide HTv)⟩
            · obtain ⟨u, e1, e2⟩ := (unhide HTrs).below (unhide HB2) j (by omega)
              exact ⟨u, by rw [List.getElem?_set_ne e]; exact e1, TrV.mono (fun b h3 h4 => ⟨h3, by simpa using h4, setCell_block (by omega)⟩) _ _ _ e2⟩
          case measure => simp [intOf]; omega
    · obtain rfl : k = ns.length := by omega
      obtain ⟨v, hv, hT⟩ := unhide HTrs (ns.length - 1) (by omega)
      have ht0 : wo.cell? ⟨w.heap.size, ns.length - 1, none⟩ = some v := (unhide HRow).held _ v hv
      have j4 : (0 : Int) ≤ (ns.length : Int) - 1 := by omega
      have j5 : (ns.length : Int) - 1 < (ns.length : Int) := by omega
      have HT := hide hT
      clear hT hv
      go_wp2
      go_returns
      refine ⟨⟨v, rfl, ?_⟩, unhide HB⟩
      have := unhide HT
      rwa [show ns.length - 1 + 1 = ns.length by omega] at this
end Go.Proofs.YtmcbmmpjhijagaaGreatDoor
namespace Go.Proofs.YtmcbmmpjhijagaaGreatDoor
open Go Go.RowKit
def vInts (xs : List Int) : List Value := xs.map fun x => .int .i64 x
theorem vInts_append (a b : List Int) : vInts (a ++ b) = vInts a ++ vInts b := by simp [vInts]
theorem vInts_take (xs : List Int) (k : Nat) : vInts (xs.take k) = (vInts xs).take k := by simp [vInts, List.map_take]
def OwnI (w : World) (B g cap : Nat) (xs : List Int) : Prop := w.ownsRow B 3 1 (.slice (some ⟨g, 0, none⟩) xs.length cap) xs.length (vInts xs)
theorem OwnI.lt {w : World} {B g cap : Nat} {xs : List Int} (h : OwnI w B g cap xs) : g < w.heap.size ∧ B ≤ g ∧ xs.length ≤ cap ∧ cap ≤ maxLen := by
  rcases h.2 with ⟨h1, _⟩ | ⟨g', cap', cur, h1, h2, h3, h4, h5, _⟩
  · simp at h1
  · simp only [Value.slice.injEq, Option.some.injEq, Addr.mk.injEq, and_true, true_and] at h1
    obtain ⟨rfl, rfl⟩ := h1
    exact ⟨(Array.getElem?_eq_some_iff.1 h3).1, h2, h4, h5⟩
theorem OwnI.of {w w1 : World} {B g cap : Nat} {xs : List Int} (h : OwnI w B g cap xs) (hb : Below w.heap.size w w1) : OwnI w1 B g cap xs := by
  have hl := h.lt.1
  refine ⟨h.1, ?_⟩
  rcases h.2 with h1 | ⟨g', cap', cur, h1, h2, h3, h4⟩
  · exact Or.inl h1
  · have e : g' = g := by
      simp only [Value.slice.injEq, Option.some.injEq, Addr.mk.injEq, and_true, true_and] at h1
      exact h1.1.symm
    exact Or.inr ⟨g', cap', cur, h1, h2, by rw [hb.block g' (by rw [e]; exact hl)]; exact h3, h4⟩
theorem OwnI.cut {w : World} {B g cap : Nat} {xs : List Int} (h : OwnI w B g cap xs) (r : Nat) (hr : r ≤ xs.length) : w.ownsRow B 3 1 (.slice (some ⟨g, 0, none⟩) r cap) r (vInts (xs.take r)) := by
  refine ⟨by simp [vInts]; omega, ?_⟩
  rcases h.2 with ⟨h1, _⟩ | ⟨g', cap', cur, h1, h2, h3, h4, h5, h6, h7⟩
  · simp at h1
  · simp only [Value.slice.injEq, Option.some.injEq, Addr.mk.injEq, and_true, true_and] at h1
    obtain ⟨rfl, rfl⟩ := h1
    refine Or.inr ⟨g, cap, cur, rfl, h2, h3, by omega, h5, h6, ?_⟩
    rw [vInts_take, ← h7, List.take_take, Nat.min_eq_left (by omega), Nat.mul_one]
theorem OwnI.row {w : World} {B g cap : Nat} {xs : List Int} (h : OwnI w B g cap xs) : IntsAt w g 0 xs := by
  rcases h.2 with ⟨h1, _⟩ | ⟨g', cap', cur, h1, h2, h3, h4, h5, h6, h7⟩
  · simp at h1
  · simp only [Value.slice.injEq, Option.some.injEq, Addr.mk.injEq, and_true, true_and] at h1
    obtain ⟨rfl, rfl⟩ := h1
    intro i x hx
    have hi := (List.getElem?_eq_some_iff.1 hx).1
    have e0 : (vInts xs)[i]? = some (.int .i64 x) := by simp [vInts, hx]
    rw [← h7] at e0
    rw [List.getElem?_take, if_pos (by omega)] at e0
    simp only [Nat.zero_add, World.cell?, h3]
    simpa using e0
end Go.Proofs.YtmcbmmpjhijagaaGreatDoor
namespace Go.Proofs.YtmcbmmpjhijagaaGreatDoor
open Go Go.RowKit
def mostTo (ds ks : List Int) (k : Nat) : Int := most ds (ks.take k)
theorem mostTo_succ (ds ks : List Int) (k : Nat) (hk : k < ks.length) : mostTo ds ks (k + 1) = if mostTo ds ks k < ds.getD (ks[k]).toNat 0 then ds.getD (ks[k]).toNat 0 else mostTo ds ks k := by
  unfold mostTo most
  rw [take_snocN ks k hk, List.foldl_append]
  rfl
theorem mostTo_nonneg (ds ks : List Int) (k : Nat) : 0 ≤ mostTo ds ks k := (foldmost (ds := ds) (ks.take k) 0).1
theorem mostTo_le (ns : List Nd) (ks : List Int) (i k : Nat) : mostTo (depTo ns i) ks k ≤ i := most_le (by omega) (depTo_bound ns i) _ 0 (by omega)
def Ordered (ns : List Nd) : Prop := ∀ i, i < ns.length → ∀ x ∈ kidsAt ns i, ∃ p : Nat, x = (p : Int) ∧ p < i
set_option maxHeartbeats 4000000 in
theorem depths_calls (ns : List Nd) (g cap : Nat) (w : World) (hg : g < w.heap.size) (hn : NodesAt w g 0 ns) (hb1 : ns.length ≤ 10000) (hkb : ∀ n ∈ ns, n.Kids.length ≤ 1048576) (hord : Ordered ns) :
    Calls Tryz.prog 21 #[.slice (some ⟨g, 0, none⟩) ns.length cap] w fun e w' => ∃ g' cap', e = .returned (.slice (some ⟨g', 0, none⟩) ns.length cap') ∧ OwnI w' w.heap.size g' cap' (depTo ns ns.length) ∧ Below w.heap.size w w' := by
  have HN := hide hn; have HK := hide hkb; have HO := hide hord
  clear hn hkb hord
  go_enter Tryz.func21, Tryz.ntmps21
  go_wp2
  go_loopw [3, 4, 5, 6] (fun s c _ _ wr => ∃ k g' cap' : Nat, k ≤ ns.length ∧ c = .int .i64 k ∧ s = .slice (some ⟨g', 0, none⟩) k cap' ∧ OwnI wr w.heap.size g' cap' (depTo ns k) ∧ Below w.heap.size w wr) (fun _ c _ _ _ => ns.length - (intOf c).toNat)
  case atStart =>
    refine ⟨0, w.heap.size, 0, Nat.zero_le _, rfl, rfl, ?_, ?_⟩
    · refine ⟨rfl, Or.inr ⟨w.heap.size, 0, #[], rfl, Nat.le_refl _, (MapKept.heap_alloc w _).1, Nat.le_refl _, Nat.zero_le _, rfl, rfl⟩⟩
    · exact (Below.refl _ _).alloc (by simp) _
  case round =>
    obtain ⟨k, g', cap', hk, rfl, rfl, hO, hb⟩ := hrel
    by_cases hlt : k < ns.length
    · obtain ⟨_, kg, c5, _, hkg, hks⟩ := ((unhide HN).of hg hb).at k hlt
      have hkl : (ns[k]).Kids.length ≤ 1048576 := (unhide HK) _ (List.getElem_mem hlt)
      have hka : kidsAt ns k = (ns[k]).Kids := kidsAt_some (List.getElem?_eq_getElem hlt)
      have hor := unhide HO k hlt
      rw [hka] at hor
      have hdep : depTo ns (k + 1) = depTo ns k ++ [most (depTo ns k) (ns[k]).Kids + 1] := by rw [depTo, hka]
      have hle := fun ks j => mostTo_le ns ks k j
      have hdl := depTo_length ns k
      have hdb := depTo_bound ns k
      generalize (ns[k]).Kids = ks at *
      clear hka
      have j1 : (k : Int) < (ns.length : Int) := by omega
      have q1 : g < wr.heap.size := Nat.lt_of_lt_of_le hg hb.size
      have hrow := hO.row
      have hOl := hO.lt
      have HS := hide hks; have HR := hide hor; have HD := hide hdep; have HOw := hide hO; have HL := hide hle; have HRow := hide hrow; have HDL := hide hdl; have HDB := hide hdb
      clear hks hor hdep hO hle hrow hdl hdb
      simp only [Nat.zero_add] at c5
      rename World => wo
      generalize hds : depTo ns k = ds at *
      go_wp2
      go_loopw [5, 6] (fun d c wi => ∃ j : Nat, j ≤ ks.length ∧ c = .int .i64 j ∧ d = .int .i64 (mostTo ds ks j) ∧ wi = wo) (fun _ c _ => ks.length - (intOf c).toNat)
      case atStart => exact ⟨0, Nat.zero_le _, rfl, rfl, rfl⟩
      case round =>
        obtain ⟨j, hj, rfl, rfl, rfl⟩ := hrel
        by_cases hjl : j < ks.length
        · have j2 : (j : Int) < (ks.length : Int) := by omega
          have e0 := (unhide HS).at j hjl
          obtain ⟨p, hp, hpk⟩ := unhide HR ks[j] (List.getElem_mem hjl)
          have hms := mostTo_succ ds ks j hjl
          rw [hp] at e0 hms
          rw [show ((p : Int)).toNat = p by simp] at hms
          have hpd : p < ds.length := by rw [unhide HDL]; exact hpk
          have d0 := (unhide HRow).at p hpd
          have hdv : ds.getD p 0 = ds[p] := by rw [List.getD_eq_getElem?_getD, List.getElem?_eq_getElem hpd]; rfl
          rw [hdv] at hms
          simp only [Nat.zero_add] at e0 d0
          generalize ds[p] = dv at *
          have jp : (p : Int) < (k : Int) := by omega
          have HM := hide hms
          clear hms hp hdv
          generalize mostTo ds ks j = mv at *
          by_cases hgt : mv < dv
          · have HX : Hid (mostTo ds ks (j + 1) = dv) := by show _ = _; rw [unhide HM, if_pos hgt]
            clear HM
            go_wp2
            go_roundw
            case rel => exact ⟨j + 1, by omega, by go_num, by rw [HX.out], by first | rfl | trivial⟩
            case measure => simp [intOf]; omega
          · have HX : Hid (mostTo ds ks (j + 1) = mv) := by show _ = _; rw [unhide HM, if_neg hgt]
            clear HM
            go_wp2
            go_roundw
            case rel => exact ⟨j + 1, by omega, by go_num, by rw [HX.out], by first | rfl | trivial⟩
            case measure => simp [intOf]; omega
        · obtain rfl : j = ks.length := by omega
          have hmx : mostTo ds ks ks.length = most ds ks := by unfold mostTo; rw [List.take_length]
          have hml := unhide HL ks ks.length
          rw [hmx] at hml
          have hm0 : 0 ≤ most ds ks := by rw [← hmx]; exact mostTo_nonneg ds ks _
          rw [hmx]
          generalize hmv : most ds ks = mv at *
          obtain ⟨i, hi, hz⟩ := Option.map_eq_some_iff.1 (show (Tryz.prog.info? 3).map (fun i => (i.zero, i.size, i.bytes)) = some (some (.int .i64 0), 1, 8) by kernel_rfl)
          simp only [Prod.mk.injEq] at hz
          obtain ⟨hz0, hz1, hz2⟩ := hz
          have HMV := hide hmv
          have hsz := hb.size
          have hlk := unhide HDL
          have HO1 := hide ((unhide HOw).of (bA (Below.refl _ _) (.cells #[.int .i64 (mv + 1)] 3)))
          have HLK := hide hlk
          clear hmx hmv hlk HOw
          go_wp2_with (at_builtin; refine wpList_append_lies _ rfl (.tmp 48) (.tmp 51) 47 rfl w.heap.size 3 i _ 1 8 Tryz.underlying47 hi hz0 hz1 hz2 rfl (by decide) (.slice (some ⟨g', 0, none⟩) k cap') k (vInts ds) rfl (by have := unhide HO1; unfold OwnI at this; rw [unhide HLK] at this; exact this) ⟨wr.heap.size, 0, none⟩ 1 1 [.int .i64 (mv + 1)] rfl rfl (World.news_of_block (cs := #[.int .i64 (mv + 1)]) (MapKept.heap_alloc wr _).1) (by intro u hu; simp at hu; subst hu; rfl) (by decide) (by unfold maxLen; omega) (by omega) (by simp; omega) _ rfl ?_; intro g2 cap2 w2 hown2 hgrow hat hlt2)
          have HO2 : Hid (OwnI w2 w.heap.size g2 cap2 (depTo ns (k + 1))) := by
            show OwnI _ _ _ _ _
            unfold OwnI
            rw [unhide HD, vInts_append, show (ds ++ [mv + 1]).length = k + 1 by simp; exact unhide HLK]
            exact hown2
          have HB2 : Hid (Below w.heap.size w w2) := (bA hb (.cells #[.int .i64 (mv + 1)] 3)).grown hgrow (by simp; omega) (fun j hj => by
              have : g' = j := by simpa [Value.ownBlock] using hj
              omega)
          clear hown2 hgrow hat HLK HO1
          go_wp2
          go_roundw
          case rel => exact ⟨k + 1, g2, cap2, by omega, by go_num, rfl, HO2.out, HB2.out⟩
          case measure => simp [intOf]; omega
    · obtain rfl : k = ns.length := by omega
      go_wp2
      go_ret
      exact ⟨_, _, rfl, hO, hb⟩
end Go.Proofs.YtmcbmmpjhijagaaGreatDoor
