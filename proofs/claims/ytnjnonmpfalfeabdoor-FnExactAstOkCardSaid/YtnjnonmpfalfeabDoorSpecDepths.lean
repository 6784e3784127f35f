/-
  DEPTHS, as the specification counts them.
-/
import Derived.Test.YtnjnonmpfalfeabDoorOwnIntsA
namespace Go.Proofs.YtnjnonmpfalfeabDoor
open Go Go.RowKit

def mostTo (ds ks : List Int) (k : Nat) : Int := most ds (ks.take k)
theorem mostTo_succ (ds ks : List Int) (k : Nat) (hk : k < ks.length) : mostTo ds ks (k + 1) = if mostTo ds ks k < ds.getD (ks[k]).toNat 0 then ds.getD (ks[k]).toNat 0 else mostTo ds ks k := by
  unfold mostTo most
  rw [take_snocN ks k hk, List.foldl_append]
  rfl
theorem mostTo_nonneg (ds ks : List Int) (k : Nat) : 0 ≤ mostTo ds ks k := (foldmost (ds := ds) (ks.take k) 0).1
theorem mostTo_le (ns : List Nd) (ks : List Int) (i k : Nat) : mostTo (depTo ns i) ks k ≤ i := most_le (by omega) (depTo_bound ns i) _ 0 (by omega)
/-- kids stand in front of their node -/
def Ordered (ns : List Nd) : Prop := ∀ i, i < ns.length → ∀ x ∈ kidsAt ns i, ∃ p : Nat, x = (p : Int) ∧ p < i

set_option maxHeartbeats 4000000 in
theorem depths_calls (ns : List Nd) (g cap : Nat) (w : World) (hg : g < w.heap.size) (hn : NodesAt w g 0 ns) (hb1 : ns.length ≤ 10000) (hkb : ∀ n ∈ ns, n.Kids.length ≤ 1048576) (hord : Ordered ns) :
    Calls Tryd.prog 43 #[.slice (some ⟨g, 0, none⟩) ns.length cap] w fun e w' => ∃ g' cap', e = .returned (.slice (some ⟨g', 0, none⟩) ns.length cap') ∧ OwnI w' w.heap.size g' cap' (depTo ns ns.length) ∧ Below w.heap.size w w' := by
  have HN := hide hn; have HK := hide hkb; have HO := hide hord
  clear hn hkb hord
  go_enter Tryd.func43, Tryd.ntmps43
  go_wp2
  go_loopw [3, 4, 5, 6] (fun s c _ _ wr => ∃ k g' cap' : Nat, k ≤ ns.length ∧ c = .int .i64 k ∧ s = .slice (some ⟨g', 0, none⟩) k cap' ∧ OwnI wr w.heap.size g' cap' (depTo ns k) ∧ Below w.heap.size w wr) (fun _ c _ _ _ => ns.length - (intOf c).toNat)
  case atStart =>
    refine ⟨0, w.heap.size, 0, Nat.zero_le _, rfl, rfl, ?_, ?_⟩
    · refine ⟨rfl, Or.inr ⟨w.heap.size, 0, #[], rfl, Nat.le_refl _, (MapKept.heap_alloc w _).1, Nat.le_refl _, Nat.zero_le _, rfl, rfl⟩⟩
    · exact (Below.refl _ _).alloc (by simp) _
  case round =>
    obtain ⟨k, g', cap', hk, rfl, rfl, hO, hb⟩ := hrel
    by_cases hlt : k < ns.length
    · obtain ⟨_, kg, c5, _, hkg, hks⟩ := ((unhide HN).of hg hb).at k hlt
      have hkl : (ns[k]).Kids.length ≤ 1048576 := (unhide HK) _ (List.getElem_mem hlt)
      have hka : kidsAt ns k = (ns[k]).Kids := kidsAt_some (List.getElem?_eq_getElem hlt)
      have hor := unhide HO k hlt
      rw [hka] at hor
      have hdep : depTo ns (k + 1) = depTo ns k ++ [most (depTo ns k) (ns[k]).Kids + 1] := by rw [depTo, hka]
      have hle := fun ks j => mostTo_le ns ks k j
      have hdl := depTo_length ns k
      have hdb := depTo_bound ns k
      generalize (ns[k]).Kids = ks at *
      clear hka
      have j1 : (k : Int) < (ns.length : Int) := by omega
      have q1 : g < wr.heap.size := Nat.lt_of_lt_of_le hg hb.size
      have hrow := hO.row
      have hOl := hO.lt
      have HS := hide hks; have HR := hide hor; have HD := hide hdep; have HOw := hide hO; have HL := hide hle; have HRow := hide hrow; have HDL := hide hdl; have HDB := hide hdb
      clear hks hor hdep hO hle hrow hdl hdb
      simp only [Nat.zero_add] at c5
      rename World => wo
      generalize hds : depTo ns k = ds at *
      go_wp2
      go_loopw [5, 6] (fun d c wi => ∃ j : Nat, j ≤ ks.length ∧ c = .int .i64 j ∧ d = .int .i64 (mostTo ds ks j) ∧ wi = wo) (fun _ c _ => ks.length - (intOf c).toNat)
      case atStart => exact ⟨0, Nat.zero_le _, rfl, rfl, rfl⟩
      case round =>
        obtain ⟨j, hj, rfl, rfl, rfl⟩ := hrel
        by_cases hjl : j < ks.length
        · have j2 : (j : Int) < (ks.length : Int) := by omega
          have e0 := (unhide HS).at j hjl
          obtain ⟨p, hp, hpk⟩ := unhide HR ks[j] (List.getElem_mem hjl)
          have hms := mostTo_succ ds ks j hjl
          rw [hp] at e0 hms
          rw [show ((p : Int)).toNat = p by simp] at hms
          have hpd : p < ds.length := by rw [unhide HDL]; exact hpk
          have d0 := (unhide HRow).at p hpd
          have hdv : ds.getD p 0 = ds[p] := by rw [List.getD_eq_getElem?_getD, List.getElem?_eq_getElem hpd]; rfl
          rw [hdv] at hms
          simp only [Nat.zero_add] at e0 d0
          generalize ds[p] = dv at *
          have jp : (p : Int) < (k : Int) := by omega
          have HM := hide hms
          clear hms hp hdv
          generalize mostTo ds ks j = mv at *
          by_cases hgt : mv < dv
          · have HX : Hid (mostTo ds ks (j + 1) = dv) := by show _ = _; rw [unhide HM, if_pos hgt]
            clear HM
            go_wp2
            go_roundw
            case rel => exact ⟨j + 1, by omega, by go_num, by rw [HX.out], by first | rfl | trivial⟩
            case measure => simp [intOf]; omega
          · have HX : Hid (mostTo ds ks (j + 1) = mv) := by show _ = _; rw [unhide HM, if_neg hgt]
            clear HM
            go_wp2
            go_roundw
            case rel => exact ⟨j + 1, by omega, by go_num, by rw [HX.out], by first | rfl | trivial⟩
            case measure => simp [intOf]; omega
        · obtain rfl : j = ks.length := by omega
          have hmx : mostTo ds ks ks.length = most ds ks := by unfold mostTo; rw [List.take_length]
          have hml := unhide HL ks ks.length
          rw [hmx] at hml
          have hm0 : 0 ≤ most ds ks := by rw [← hmx]; exact mostTo_nonneg ds ks _
          rw [hmx]
          generalize hmv : most ds ks = mv at *
          obtain ⟨i, hi, hz⟩ := Option.map_eq_some_iff.1 (show (Tryd.prog.info? 3).map (fun i => (i.zero, i.size, i.bytes)) = some (some (.int .i64 0), 1, 8) by kernel_rfl)
          simp only [Prod.mk.injEq] at hz
          obtain ⟨hz0, hz1, hz2⟩ := hz
          have HMV := hide hmv
          have hsz := hb.size
          have hlk := unhide HDL
          have HO1 := hide ((unhide HOw).of (bA (Below.refl _ _) (.cells #[.int .i64 (mv + 1)] 3)))
          have HLK := hide hlk
          clear hmx hmv hlk HOw
          go_wp2_with (at_builtin; refine wpList_append_lies _ rfl (.tmp 48) (.tmp 51) 80 rfl w.heap.size 3 i _ 1 8 Tryd.underlying80 hi hz0 hz1 hz2 rfl (by decide) (.slice (some ⟨g', 0, none⟩) k cap') k (vInts ds) rfl (by have := unhide HO1; unfold OwnI at this; rw [unhide HLK] at this; exact this) ⟨wr.heap.size, 0, none⟩ 1 1 [.int .i64 (mv + 1)] rfl rfl (World.news_of_block (cs := #[.int .i64 (mv + 1)]) (MapKept.heap_alloc wr _).1) (by intro u hu; simp at hu; subst hu; rfl) (by decide) (by unfold maxLen; omega) (by omega) (by simp; omega) _ rfl ?_; intro g2 cap2 w2 hown2 hgrow hat hlt2)
          have HO2 : Hid (OwnI w2 w.heap.size g2 cap2 (depTo ns (k + 1))) := by
            show OwnI _ _ _ _ _
            unfold OwnI
            rw [unhide HD, vInts_append, show (ds ++ [mv + 1]).length = k + 1 by simp; exact unhide HLK]
            exact hown2
          have HB2 : Hid (Below w.heap.size w w2) := (bA hb (.cells #[.int .i64 (mv + 1)] 3)).grown hgrow (by simp; omega) (fun j hj => by
              have : g' = j := by simpa [Value.ownBlock] using hj
              omega)
          clear hown2 hgrow hat HLK HO1
          go_wp2
          go_roundw
          case rel => exact ⟨k + 1, g2, cap2, by omega, by go_num, rfl, HO2.out, HB2.out⟩
          case measure => simp [intOf]; omega
    · obtain rfl : k = ns.length := by omega
      go_wp2
      go_ret
      exact ⟨_, _, rfl, hO, hb⟩
end Go.Proofs.YtnjnonmpfalfeabDoor
