import Derived.Test.YtkdeilhkobcglaaDoorGWork1
import Derived.Test.YtkdeilhkobcglaaDoorGSpec13
/-
  THE BOUNDS ON A PLAN's ROWS, as the specification finds them: the walk of the sizes.
-/
namespace Go.Proofs.YtkdeilhkobcglaaDoor
open Go Go.RowKit

theorem PF.ofB {s g np cap gt nt capt b : Nat} {W W1 : World} (h : PF s g np cap gt nt capt W) (hb : Below b W W1) (hs : s + 1 < b) (hz : b ≤ W.heap.size) : PF s g np cap gt nt capt W1 :=
  ⟨(hb.cell (p := ⟨s, 0, none⟩) (show s < _ by omega)).trans h.p, (hb.cell (p := ⟨s + 1, 0, none⟩) hs).trans h.d, by have := hb.size; omega⟩

set_option maxRecDepth 100000 in
set_option maxHeartbeats 8000000 in
theorem l3Sizes_calls (ts : List Tb) (ps : List Pn) (g cap gt capt : Nat) (w : World) (hg : g < w.heap.size) (hn : PnsAt w g 0 ps) (hgt : gt < w.heap.size) (ht : TablesAt w gt 0 ts) (hG : Good ts ps) (h2000 : ps.length ≤ 2000) :
    Calls Tryd.prog 32 #[.agg #[.slice (some ⟨g, 0, none⟩) ps.length cap], .agg #[.slice (some ⟨gt, 0, none⟩) ts.length capt]] w fun e w' => ∃ g' cap', e = .returned (.slice (some ⟨g', 0, none⟩) ps.length cap') ∧ OwnI w' w.heap.size g' cap' (sizTo ts ps ps.length) ∧ Below w.heap.size w w' := by
  obtain ⟨ii, hi, hz⟩ := Option.map_eq_some_iff.1 (show (Tryd.prog.info? 3).map (fun i => (i.zero, i.size, i.bytes)) = some (some (.int .i64 0), 1, 8) by kernel_rfl)
  simp only [Prod.mk.injEq] at hz
  obtain ⟨hz0, hz1, hz2⟩ := hz
  have hlt50 : ts.length ≤ 50 := hG.db.few
  have HN := hide hn; have HG := hide hG; have HTt := hide ht
  have hr50 : ∀ (t : Nat) (h : t < ts.length), (ts[t]).Rows.length ≤ 1000 := fun t h => by
    have h1 := hG.db.rows
    have h2 := sumR_append (ts.take t) (ts.drop t)
    rw [List.take_append_drop, List.drop_eq_getElem_cons h] at h2
    simp only [sumR] at h2
    omega
  have HR50 := hide hr50
  clear hn hG ht hr50
  go_enter Tryd.func32, Tryd.ntmps32
  go_wp2
  go_loopw [5, 6] (fun s c wr => ∃ k g' cap' : Nat, k ≤ ps.length ∧ c = .int .i64 k ∧ s = .slice (some ⟨g', 0, none⟩) k cap' ∧ OwnI wr (w.heap.size + 2) g' cap' (sizTo ts ps k) ∧ PF w.heap.size g ps.length cap gt ts.length capt wr ∧ Below w.heap.size w wr) (fun _ c _ => ps.length - (intOf c).toNat)
  case atStart =>
    refine ⟨0, w.heap.size + 2, 0, Nat.zero_le _, rfl, by first | rfl | simp, ?_, ⟨by simp [go_sem], by simp [go_sem], by simp⟩, bA (bA (bA (Below.refl _ _) _) _) _⟩
    refine ⟨rfl, Or.inr ⟨w.heap.size + 2, 0, #[], rfl, Nat.le_refl _, ?_, Nat.le_refl _, Nat.zero_le _, rfl, rfl⟩⟩
    have h' := (MapKept.heap_alloc ((w.alloc (.cells #[.slice (some ⟨g, 0, none⟩) ps.length cap] 34)).alloc (.cells #[.slice (some ⟨gt, 0, none⟩) ts.length capt] 38)) (.cells #[] 3)).1
    rw [show ((w.alloc (.cells #[.slice (some ⟨g, 0, none⟩) ps.length cap] 34)).alloc (.cells #[.slice (some ⟨gt, 0, none⟩) ts.length capt] 38)).heap.size = w.heap.size + 2 by simp] at h'
    exact h'
  case round =>
    obtain ⟨k, g', cap', hk, rfl, rfl, hO, F, hb⟩ := hrel
    by_cases hlt : k < ps.length
    · obtain ⟨c0, c1, c2, c5, c6, ⟨b3, c3, _⟩, b4, c4, _⟩ := ((unhide HN).of hg hb).at k hlt
      simp only [Nat.zero_add] at c0 c1 c2 c3 c4 c5 c6
      have hFk := (unhide HG).fld k hlt
      have hKid := (unhide HG).kids hlt
      have hsz := siz_at ts hlt hFk.1 hFk.2.1 (fun h => (hKid.1 h).2) (fun h => (hKid.2 h).2)
      have htab := fun (t : Nat) (ht : t < ts.length) => ((unhide HTt).of hgt hb).at t ht
      have j1 : (k : Int) < (ps.length : Int) := by omega
      have q1 : g < wr.heap.size := Nat.lt_of_lt_of_le hg hb.size
      have q3 : gt < wr.heap.size := Nat.lt_of_lt_of_le hgt hb.size
      obtain ⟨hgl, hgb, hgc, hgm⟩ := hO.lt
      rw [sizTo_length] at hgc
      cases e : ps[k] with | mk K T M Ex Exs L R =>
      rw [e] at c0 c1 c2 c3 c4 c5 c6 hFk hKid hsz
      simp only at c0 c1 c2 c3 c4 c5 c6 hFk hKid hsz
      have k1 : 1 ≤ K := hFk.1
      have k2 : K ≤ 10 := hFk.2.1
      have hU : usedP ts.length K T M Ex.length Exs.length := hFk.2.2.1
      have hc : K = 1 ∨ K = 2 ∨ K = 3 ∨ K = 4 ∨ K = 5 ∨ K = 6 ∨ K = 7 ∨ K = 8 ∨ K = 9 ∨ K = 10 := by omega
      have HO := hide hO; have HTab := hide htab; have HU := hide hU; have HKid := hide hKid; have HSz := hide hsz
      have hat := fun (q : Nat) (hq : q < k) => hO.row q _ (sizTo_at ts ps hq)
      have HAt := hide hat
      clear hO htab hU hFk e HN HTt hKid hsz hat HG
      obtain ⟨fp, fd, fs⟩ := id F
      have fs0 : w.heap.size < wr.heap.size := by omega
      rcases hc with rfl | rfl | rfl | rfl | rfl | rfl | rfl | rfl | rfl | rfl
      · go_upto_region 7 with fail
        have hB0 := bA (Below.refl wr.heap.size wr) (.cells #[.int .i64 1, .int .i64 T, .int .i64 M, .slice (some ⟨b3, 0, none⟩) Ex.length Ex.length, .slice (some ⟨b4, 0, none⟩) Exs.length Exs.length, .int .i64 L, .int .i64 R] 93)
        have HOb := hide ((unhide HO).of hB0)
        have HFb := hide (F.of hB0)
        have HBw := hide (bT hb hB0)
        have hsb : wr.heap.size < (wr.alloc (.cells #[.int .i64 1, .int .i64 T, .int .i64 M, .slice (some ⟨b3, 0, none⟩) Ex.length Ex.length, .slice (some ⟨b4, 0, none⟩) Exs.length Exs.length, .int .i64 L, .int .i64 R] 93)).heap.size := by simp
        clear c0 c1 c2 c3 c4 c5 c6 fp fd fs F hb HO HTab HU HKid HAt
        generalize (wr.alloc (.cells #[.int .i64 1, .int .i64 T, .int .i64 M, .slice (some ⟨b3, 0, none⟩) Ex.length Ex.length, .slice (some ⟨b4, 0, none⟩) Exs.length Exs.length, .int .i64 L, .int .i64 R] 93)) = Wb at *
        have hWs : w.heap.size + 2 ≤ Wb.heap.size := by omega
        clear hgl q1 q3 fs0
        generalize wr.heap.size = bx at *
        go_wp2_with (at_builtin; refine wpList_append_lies _ rfl (.tmp 24) (.tmp 25) 62 rfl (w.heap.size + 2) 3 ii _ 1 8 Tryd.underlying62 hi hz0 hz1 hz2 rfl (by decide) (.slice (some ⟨g', 0, none⟩) k cap') k (vInts (sizTo ts ps k)) rfl (by have := (unhide HOb).of (bA (Below.refl _ _) (.cells #[.int .i64 (1)] 3)); unfold OwnI at this; rw [sizTo_length] at this; exact this) ⟨Wb.heap.size, 0, none⟩ 1 1 [.int .i64 (1)] rfl rfl (World.news_of_block (cs := #[.int .i64 (1)]) (MapKept.heap_alloc Wb _).1) (by intro u hu; simp at hu; subst hu; rfl) (by decide) (by unfold maxLen; omega) (by omega) (by simp; omega) _ rfl ?_; intro g2 cap2 w2 hown2 hgrow hat2 hlt2)
        have HO2 : Hid (OwnI w2 (w.heap.size + 2) g2 cap2 (sizTo ts ps (k + 1))) := by
          show OwnI _ _ _ _ _
          rw [sizTo_succ, unhide HSz, if_pos rfl]
          exact OwnI.push (sizTo_length ts ps k) hown2
        have hbx : Below (w.heap.size + 2) Wb w2 := ((Below.refl (w.heap.size + 2) Wb).alloc (by omega) (.cells #[.int .i64 (1)] 3)).grown hgrow (by simp; omega) (fun j hj => by
          have : g' = j := by simpa [Value.ownBlock] using hj
          omega)
        have HF2 := hide ((unhide HFb).ofB hbx (by omega) (by omega))
        have HB2 : Hid (Below w.heap.size w w2) := (unhide HBw).trans (hbx.mono (by omega))
        clear hown2 hgrow hbx hat2 HOb HSz
        go_wp2
        go_roundw
        case rel => exact ⟨k + 1, g2, cap2, by omega, by go_num, rfl, HO2.out, unhide HF2, HB2.out⟩
        case measure => simp [intOf]; omega
      · obtain ⟨hT0, hT1⟩ := (unhide HU).2.1 rfl
        obtain ⟨t, rfl⟩ : ∃ t : Nat, T = (t : Int) := ⟨T.toNat, by omega⟩
        have htl : t < ts.length := by omega
        obtain ⟨_, _, G, d2, _⟩ := unhide HTab t htl
        simp only [Nat.zero_add] at d2
        have hrl := unhide HR50 t htl
        have hra : rowsAt ts (t : Int) = ((ts[t]).Rows.length : Int) := by simp [rowsAt, htl]
        rw [hra] at HSz
        have HRl : Hid (siz ts ps k = capW ((ts[t]).Rows.length : Int)) := by show _ = _; rw [unhide HSz]; simp
        clear HSz hra
        have HSz := HRl
        clear HRl
        generalize (ts[t]).Rows.length = rl at *
        have HCap := hide (fun W => l3Cap_calls (rl : Int) W)
        go_upto_region 9 with fail
        have hB0 := bA (Below.refl wr.heap.size wr) (.cells #[.int .i64 2, .int .i64 (t : Int), .int .i64 M, .slice (some ⟨b3, 0, none⟩) Ex.length Ex.length, .slice (some ⟨b4, 0, none⟩) Exs.length Exs.length, .int .i64 L, .int .i64 R] 93)
        have HOb := hide ((unhide HO).of hB0)
        have HFb := hide (F.of hB0)
        have HBw := hide (bT hb hB0)
        have hsb : wr.heap.size < (wr.alloc (.cells #[.int .i64 2, .int .i64 (t : Int), .int .i64 M, .slice (some ⟨b3, 0, none⟩) Ex.length Ex.length, .slice (some ⟨b4, 0, none⟩) Exs.length Exs.length, .int .i64 L, .int .i64 R] 93)).heap.size := by simp
        have n1 : (wr.alloc (.cells #[.int .i64 2, .int .i64 (t : Int), .int .i64 M, .slice (some ⟨b3, 0, none⟩) Ex.length Ex.length, .slice (some ⟨b4, 0, none⟩) Exs.length Exs.length, .int .i64 L, .int .i64 R] 93)).cell? ⟨wr.heap.size, 1, none⟩ = some (.int .i64 (t : Int)) := by simp [go_sem]
        have d2b := (hB0.cell (p := ⟨gt, t * 3 + 2, none⟩) q3).trans d2
        have fdb := (hB0.cell (p := ⟨w.heap.size + 1, 0, none⟩) fs).trans fd
        have q3b : gt < (wr.alloc (.cells #[.int .i64 2, .int .i64 (t : Int), .int .i64 M, .slice (some ⟨b3, 0, none⟩) Ex.length Ex.length, .slice (some ⟨b4, 0, none⟩) Exs.length Exs.length, .int .i64 L, .int .i64 R] 93)).heap.size := by simp; omega
        have fsb : w.heap.size + 1 < (wr.alloc (.cells #[.int .i64 2, .int .i64 (t : Int), .int .i64 M, .slice (some ⟨b3, 0, none⟩) Ex.length Ex.length, .slice (some ⟨b4, 0, none⟩) Exs.length Exs.length, .int .i64 L, .int .i64 R] 93)).heap.size := by simp; omega
        clear d2 hB0
        clear c0 c1 c2 c3 c4 c5 c6 fp fd fs F hb HO HTab HU HKid HAt
        generalize (wr.alloc (.cells #[.int .i64 2, .int .i64 (t : Int), .int .i64 M, .slice (some ⟨b3, 0, none⟩) Ex.length Ex.length, .slice (some ⟨b4, 0, none⟩) Exs.length Exs.length, .int .i64 L, .int .i64 R] 93)) = Wb at *
        have hWs : w.heap.size + 2 ≤ Wb.heap.size := by omega
        clear hgl q1 q3 fs0
        generalize wr.heap.size = bx at *
        generalize capW (rl : Int) = z at *
        go_wp2_with fail
        refine (unhide HCap _).mono ?_; rintro e Wx ⟨rfl, hWx⟩
        subst hWx
        go_wp2_with (at_builtin; refine wpList_append_lies _ rfl (.tmp 30) (.tmp 40) 62 rfl (w.heap.size + 2) 3 ii _ 1 8 Tryd.underlying62 hi hz0 hz1 hz2 rfl (by decide) (.slice (some ⟨g', 0, none⟩) k cap') k (vInts (sizTo ts ps k)) rfl (by have := (unhide HOb).of (bA (Below.refl _ _) (.cells #[.int .i64 (z)] 3)); unfold OwnI at this; rw [sizTo_length] at this; exact this) ⟨Wx.heap.size, 0, none⟩ 1 1 [.int .i64 (z)] rfl rfl (World.news_of_block (cs := #[.int .i64 (z)]) (MapKept.heap_alloc Wx _).1) (by intro u hu; simp at hu; subst hu; rfl) (by decide) (by unfold maxLen; omega) (by omega) (by simp; omega) _ rfl ?_; intro g2 cap2 w2 hown2 hgrow hat2 hlt2)
        have HO2 : Hid (OwnI w2 (w.heap.size + 2) g2 cap2 (sizTo ts ps (k + 1))) := by
          show OwnI _ _ _ _ _
          rw [sizTo_succ, unhide HSz]
          exact OwnI.push (sizTo_length ts ps k) hown2
        have hbx : Below (w.heap.size + 2) Wx w2 := ((Below.refl (w.heap.size + 2) Wx).alloc (by omega) (.cells #[.int .i64 (z)] 3)).grown hgrow (by simp; omega) (fun j hj => by
          have : g' = j := by simpa [Value.ownBlock] using hj
          omega)
        have HF2 := hide ((unhide HFb).ofB hbx (by omega) (by omega))
        have HB2 : Hid (Below w.heap.size w w2) := (unhide HBw).trans (hbx.mono (by omega))
        clear hown2 hgrow hbx hat2 HOb HSz
        go_wp2
        go_roundw
        case rel => exact ⟨k + 1, g2, cap2, by omega, by go_num, rfl, HO2.out, unhide HF2, HB2.out⟩
        case measure => simp [intOf]; omega
      · obtain ⟨hL0, hL1⟩ := (unhide HKid).1 (by decide)
        obtain ⟨q, rfl⟩ : ∃ q : Nat, L = (q : Int) := ⟨L.toNat, by omega⟩
        have hq : q < k := by omega
        have hqk : (q : Int) < (k : Int) := by omega
        have HRl : Hid (siz ts ps k = siz ts ps q) := by show _ = _; rw [unhide HSz]; simp
        clear HSz
        have HSz := HRl
        clear HRl
        have rq := unhide HAt q hq
        simp only [Nat.zero_add] at rq
        generalize siz ts ps q = z at *
        go_upto_region 14 with fail
        have hB0 := bA (Below.refl wr.heap.size wr) (.cells #[.int .i64 3, .int .i64 T, .int .i64 M, .slice (some ⟨b3, 0, none⟩) Ex.length Ex.length, .slice (some ⟨b4, 0, none⟩) Exs.length Exs.length, .int .i64 (q : Int), .int .i64 R] 93)
        have HOb := hide ((unhide HO).of hB0)
        have HFb := hide (F.of hB0)
        have HBw := hide (bT hb hB0)
        have hsb : wr.heap.size < (wr.alloc (.cells #[.int .i64 3, .int .i64 T, .int .i64 M, .slice (some ⟨b3, 0, none⟩) Ex.length Ex.length, .slice (some ⟨b4, 0, none⟩) Exs.length Exs.length, .int .i64 (q : Int), .int .i64 R] 93)).heap.size := by simp
        have n5 : (wr.alloc (.cells #[.int .i64 3, .int .i64 T, .int .i64 M, .slice (some ⟨b3, 0, none⟩) Ex.length Ex.length, .slice (some ⟨b4, 0, none⟩) Exs.length Exs.length, .int .i64 (q : Int), .int .i64 R] 93)).cell? ⟨wr.heap.size, 5, none⟩ = some (.int .i64 (q : Int)) := by simp [go_sem]
        have rqb := (hB0.cell (p := ⟨g', q, none⟩) hgl).trans rq
        have hglb : g' < (wr.alloc (.cells #[.int .i64 3, .int .i64 T, .int .i64 M, .slice (some ⟨b3, 0, none⟩) Ex.length Ex.length, .slice (some ⟨b4, 0, none⟩) Exs.length Exs.length, .int .i64 (q : Int), .int .i64 R] 93)).heap.size := by simp; omega
        clear rq hB0 hL0 hL1
        clear c0 c1 c2 c3 c4 c5 c6 fp fd fs F hb HO HTab HU HKid HAt
        generalize (wr.alloc (.cells #[.int .i64 3, .int .i64 T, .int .i64 M, .slice (some ⟨b3, 0, none⟩) Ex.length Ex.length, .slice (some ⟨b4, 0, none⟩) Exs.length Exs.length, .int .i64 (q : Int), .int .i64 R] 93)) = Wb at *
        have hWs : w.heap.size + 2 ≤ Wb.heap.size := by omega
        clear hgl q1 q3 fs0
        generalize wr.heap.size = bx at *
        go_wp2_with (at_builtin; refine wpList_append_lies _ rfl (.tmp 83) (.tmp 89) 62 rfl (w.heap.size + 2) 3 ii _ 1 8 Tryd.underlying62 hi hz0 hz1 hz2 rfl (by decide) (.slice (some ⟨g', 0, none⟩) k cap') k (vInts (sizTo ts ps k)) rfl (by have := (unhide HOb).of (bA (Below.refl _ _) (.cells #[.int .i64 (z)] 3)); unfold OwnI at this; rw [sizTo_length] at this; exact this) ⟨Wb.heap.size, 0, none⟩ 1 1 [.int .i64 (z)] rfl rfl (World.news_of_block (cs := #[.int .i64 (z)]) (MapKept.heap_alloc Wb _).1) (by intro u hu; simp at hu; subst hu; rfl) (by decide) (by unfold maxLen; omega) (by omega) (by simp; omega) _ rfl ?_; intro g2 cap2 w2 hown2 hgrow hat2 hlt2)
        have HO2 : Hid (OwnI w2 (w.heap.size + 2) g2 cap2 (sizTo ts ps (k + 1))) := by
          show OwnI _ _ _ _ _
          rw [sizTo_succ, unhide HSz]
          exact OwnI.push (sizTo_length ts ps k) hown2
        have hbx : Below (w.heap.size + 2) Wb w2 := ((Below.refl (w.heap.size + 2) Wb).alloc (by omega) (.cells #[.int .i64 (z)] 3)).grown hgrow (by simp; omega) (fun j hj => by
          have : g' = j := by simpa [Value.ownBlock] using hj
          omega)
        have HF2 := hide ((unhide HFb).ofB hbx (by omega) (by omega))
        have HB2 : Hid (Below w.heap.size w w2) := (unhide HBw).trans (hbx.mono (by omega))
        clear hown2 hgrow hbx hat2 HOb HSz
        go_wp2
        go_roundw
        case rel => exact ⟨k + 1, g2, cap2, by omega, by go_num, rfl, HO2.out, unhide HF2, HB2.out⟩
        case measure => simp [intOf]; omega
      · obtain ⟨hL0, hL1⟩ := (unhide HKid).1 (by decide)
        obtain ⟨q, rfl⟩ : ∃ q : Nat, L = (q : Int) := ⟨L.toNat, by omega⟩
        have hq : q < k := by omega
        have hqk : (q : Int) < (k : Int) := by omega
        have HRl : Hid (siz ts ps k = siz ts ps q) := by show _ = _; rw [unhide HSz]; simp
        clear HSz
        have HSz := HRl
        clear HRl
        have rq := unhide HAt q hq
        simp only [Nat.zero_add] at rq
        generalize siz ts ps q = z at *
        go_upto_region 14 with fail
        have hB0 := bA (Below.refl wr.heap.size wr) (.cells #[.int .i64 4, .int .i64 T, .int .i64 M, .slice (some ⟨b3, 0, none⟩) Ex.length Ex.length, .slice (some ⟨b4, 0, none⟩) Exs.length Exs.length, .int .i64 (q : Int), .int .i64 R] 93)
        have HOb := hide ((unhide HO).of hB0)
        have HFb := hide (F.of hB0)
        have HBw := hide (bT hb hB0)
        have hsb : wr.heap.size < (wr.alloc (.cells #[.int .i64 4, .int .i64 T, .int .i64 M, .slice (some ⟨b3, 0, none⟩) Ex.length Ex.length, .slice (some ⟨b4, 0, none⟩) Exs.length Exs.length, .int .i64 (q : Int), .int .i64 R] 93)).heap.size := by simp
        have n5 : (wr.alloc (.cells #[.int .i64 4, .int .i64 T, .int .i64 M, .slice (some ⟨b3, 0, none⟩) Ex.length Ex.length, .slice (some ⟨b4, 0, none⟩) Exs.length Exs.length, .int .i64 (q : Int), .int .i64 R] 93)).cell? ⟨wr.heap.size, 5, none⟩ = some (.int .i64 (q : Int)) := by simp [go_sem]
        have rqb := (hB0.cell (p := ⟨g', q, none⟩) hgl).trans rq
        have hglb : g' < (wr.alloc (.cells #[.int .i64 4, .int .i64 T, .int .i64 M, .slice (some ⟨b3, 0, none⟩) Ex.length Ex.length, .slice (some ⟨b4, 0, none⟩) Exs.length Exs.length, .int .i64 (q : Int), .int .i64 R] 93)).heap.size := by simp; omega
        clear rq hB0 hL0 hL1
        clear c0 c1 c2 c3 c4 c5 c6 fp fd fs F hb HO HTab HU HKid HAt
        generalize (wr.alloc (.cells #[.int .i64 4, .int .i64 T, .int .i64 M, .slice (some ⟨b3, 0, none⟩) Ex.length Ex.length, .slice (some ⟨b4, 0, none⟩) Exs.length Exs.length, .int .i64 (q : Int), .int .i64 R] 93)) = Wb at *
        have hWs : w.heap.size + 2 ≤ Wb.heap.size := by omega
        clear hgl q1 q3 fs0
        generalize wr.heap.size = bx at *
        go_wp2_with (at_builtin; refine wpList_append_lies _ rfl (.tmp 83) (.tmp 89) 62 rfl (w.heap.size + 2) 3 ii _ 1 8 Tryd.underlying62 hi hz0 hz1 hz2 rfl (by decide) (.slice (some ⟨g', 0, none⟩) k cap') k (vInts (sizTo ts ps k)) rfl (by have := (unhide HOb).of (bA (Below.refl _ _) (.cells #[.int .i64 (z)] 3)); unfold OwnI at this; rw [sizTo_length] at this; exact this) ⟨Wb.heap.size, 0, none⟩ 1 1 [.int .i64 (z)] rfl rfl (World.news_of_block (cs := #[.int .i64 (z)]) (MapKept.heap_alloc Wb _).1) (by intro u hu; simp at hu; subst hu; rfl) (by decide) (by unfold maxLen; omega) (by omega) (by simp; omega) _ rfl ?_; intro g2 cap2 w2 hown2 hgrow hat2 hlt2)
        have HO2 : Hid (OwnI w2 (w.heap.size + 2) g2 cap2 (sizTo ts ps (k + 1))) := by
          show OwnI _ _ _ _ _
          rw [sizTo_succ, unhide HSz]
          exact OwnI.push (sizTo_length ts ps k) hown2
        have hbx : Below (w.heap.size + 2) Wb w2 := ((Below.refl (w.heap.size + 2) Wb).alloc (by omega) (.cells #[.int .i64 (z)] 3)).grown hgrow (by simp; omega) (fun j hj => by
          have : g' = j := by simpa [Value.ownBlock] using hj
          omega)
        have HF2 := hide ((unhide HFb).ofB hbx (by omega) (by omega))
        have HB2 : Hid (Below w.heap.size w w2) := (unhide HBw).trans (hbx.mono (by omega))
        clear hown2 hgrow hbx hat2 HOb HSz
        go_wp2
        go_roundw
        case rel => exact ⟨k + 1, g2, cap2, by omega, by go_num, rfl, HO2.out, unhide HF2, HB2.out⟩
        case measure => simp [intOf]; omega
      · obtain ⟨hL0, hL1⟩ := (unhide HKid).1 (by decide)
        obtain ⟨hR0, hR1⟩ := (unhide HKid).2 (by decide)
        obtain ⟨q, rfl⟩ : ∃ q : Nat, L = (q : Int) := ⟨L.toNat, by omega⟩
        obtain ⟨j, rfl⟩ : ∃ j : Nat, R = (j : Int) := ⟨R.toNat, by omega⟩
        have hq : q < k := by omega
        have hj : j < k := by omega
        have hqk : (q : Int) < (k : Int) := by omega
        have hjk : (j : Int) < (k : Int) := by omega
        have HRl : Hid (siz ts ps k = capW (siz ts ps q * siz ts ps j)) := by show _ = _; rw [unhide HSz]; simp
        clear HSz
        have HSz := HRl
        clear HRl
        have rq := unhide HAt q hq
        have rj := unhide HAt j hj
        simp only [Nat.zero_add] at rq rj
        obtain ⟨hz10, hz11⟩ := siz_range ts ps (q + 1) q (by omega)
        obtain ⟨hy10, hy11⟩ := siz_range ts ps (j + 1) j (by omega)
        generalize siz ts ps q = z at *
        generalize siz ts ps j = y at *
        have hm0 : 0 ≤ z * y := Int.mul_nonneg hz10 hy10
        have hm1 : z * y ≤ 2001 * 2001 := Int.mul_le_mul hz11 hy11 hy10 (by omega)
        have hwp : IntKind.i64.wrap (z * y) = z * y := wrap_small _ (by omega) (by omega)
        have HCap := hide (fun W => l3Cap_calls (z * y) W)
        go_upto_region 11 with fail
        have hB0 := bA (Below.refl wr.heap.size wr) (.cells #[.int .i64 5, .int .i64 T, .int .i64 M, .slice (some ⟨b3, 0, none⟩) Ex.length Ex.length, .slice (some ⟨b4, 0, none⟩) Exs.length Exs.length, .int .i64 (q : Int), .int .i64 (j : Int)] 93)
        have HOb := hide ((unhide HO).of hB0)
        have HFb := hide (F.of hB0)
        have HBw := hide (bT hb hB0)
        have hsb : wr.heap.size < (wr.alloc (.cells #[.int .i64 5, .int .i64 T, .int .i64 M, .slice (some ⟨b3, 0, none⟩) Ex.length Ex.length, .slice (some ⟨b4, 0, none⟩) Exs.length Exs.length, .int .i64 (q : Int), .int .i64 (j : Int)] 93)).heap.size := by simp
        have n5 : (wr.alloc (.cells #[.int .i64 5, .int .i64 T, .int .i64 M, .slice (some ⟨b3, 0, none⟩) Ex.length Ex.length, .slice (some ⟨b4, 0, none⟩) Exs.length Exs.length, .int .i64 (q : Int), .int .i64 (j : Int)] 93)).cell? ⟨wr.heap.size, 5, none⟩ = some (.int .i64 (q : Int)) := by simp [go_sem]
        have n6 : (wr.alloc (.cells #[.int .i64 5, .int .i64 T, .int .i64 M, .slice (some ⟨b3, 0, none⟩) Ex.length Ex.length, .slice (some ⟨b4, 0, none⟩) Exs.length Exs.length, .int .i64 (q : Int), .int .i64 (j : Int)] 93)).cell? ⟨wr.heap.size, 6, none⟩ = some (.int .i64 (j : Int)) := by simp [go_sem]
        have rqb := (hB0.cell (p := ⟨g', q, none⟩) hgl).trans rq
        have rjb := (hB0.cell (p := ⟨g', j, none⟩) hgl).trans rj
        have hglb : g' < (wr.alloc (.cells #[.int .i64 5, .int .i64 T, .int .i64 M, .slice (some ⟨b3, 0, none⟩) Ex.length Ex.length, .slice (some ⟨b4, 0, none⟩) Exs.length Exs.length, .int .i64 (q : Int), .int .i64 (j : Int)] 93)).heap.size := by simp; omega
        have hgx : g' < wr.heap.size := hgl
        clear rq rj hB0 hL0 hL1 hR0 hR1
        clear c0 c1 c2 c3 c4 c5 c6 fp fd fs F hb HO HTab HU HKid HAt
        generalize (wr.alloc (.cells #[.int .i64 5, .int .i64 T, .int .i64 M, .slice (some ⟨b3, 0, none⟩) Ex.length Ex.length, .slice (some ⟨b4, 0, none⟩) Exs.length Exs.length, .int .i64 (q : Int), .int .i64 (j : Int)] 93)) = Wb at *
        have hWs : w.heap.size + 2 ≤ Wb.heap.size := by omega
        clear hgl q1 q3 fs0
        generalize wr.heap.size = bx at *
        generalize capW (z * y) = z2 at *
        have hWd : w.heap.size + 2 ≤ Wb.drew.heap.size := hWs
        have hsd : bx < Wb.drew.heap.size := hsb
        refine wp_region_held_drew (S := fun W => W.cell? ⟨bx, 5, none⟩ = some (.int .i64 (q : Int)) ∧ W.cell? ⟨bx, 6, none⟩ = some (.int .i64 (j : Int))) (by kernel_rfl) ⟨n5, n6⟩ (fun hHeld => ?_)
        refine takeW 0 50 (.slice (some ⟨g', 0, none⟩) k cap') rfl rfl (by kernel_rfl) (by kernel_rfl) (by kernel_rfl) (fun _ _ _ h => h) rfl (fun wx hSw => by obtain ⟨hs1, hs2⟩ := hSw; go_simp) (by assumption) ?_
        simp only [Act.put, List.setIfInBounds_toArray, List.set_cons_succ, List.set_cons_zero]
        refine takeW 1 51 (.slice (some ⟨g', 0, none⟩) k cap') rfl rfl (by kernel_rfl) (by kernel_rfl) (by kernel_rfl) (fun _ _ _ h => h) rfl (fun wx hSw => by obtain ⟨hs1, hs2⟩ := hSw; go_simp) (by assumption) ?_
        simp only [Act.put, List.setIfInBounds_toArray, List.set_cons_succ, List.set_cons_zero]
        refine takeW 2 52 (.pointer (some ⟨bx, 5, none⟩)) rfl rfl (by kernel_rfl) (by kernel_rfl) (by kernel_rfl) (fun _ _ _ h => h) rfl (fun wx hSw => by obtain ⟨hs1, hs2⟩ := hSw; go_simp) (by assumption) ?_
        simp only [Act.put, List.setIfInBounds_toArray, List.set_cons_succ, List.set_cons_zero]
        refine takeW 3 53 (.int .i64 (q : Int)) rfl rfl (by kernel_rfl) (by kernel_rfl) (by kernel_rfl) (fun _ _ _ h => h) rfl (fun wx hSw => by obtain ⟨hs1, hs2⟩ := hSw; go_simp) (by assumption) ?_
        simp only [Act.put, List.setIfInBounds_toArray, List.set_cons_succ, List.set_cons_zero]
        refine takeW 4 54 (.pointer (some ⟨g', q, none⟩)) rfl rfl (by kernel_rfl) (by kernel_rfl) (by kernel_rfl) (fun _ _ _ h => h) rfl (fun wx hSw => by obtain ⟨hs1, hs2⟩ := hSw; go_simp) (by assumption) ?_
        simp only [Act.put, List.setIfInBounds_toArray, List.set_cons_succ, List.set_cons_zero]
        refine takeW 6 56 (.slice (some ⟨g', 0, none⟩) k cap') rfl rfl (by kernel_rfl) (by kernel_rfl) (by kernel_rfl) (fun _ _ _ h => h) rfl (fun wx hSw => by obtain ⟨hs1, hs2⟩ := hSw; go_simp) (by assumption) ?_
        simp only [Act.put, List.setIfInBounds_toArray, List.set_cons_succ, List.set_cons_zero]
        refine takeW 7 57 (.pointer (some ⟨bx, 6, none⟩)) rfl rfl (by kernel_rfl) (by kernel_rfl) (by kernel_rfl) (fun _ _ _ h => h) rfl (fun wx hSw => by obtain ⟨hs1, hs2⟩ := hSw; go_simp) (by assumption) ?_
        simp only [Act.put, List.setIfInBounds_toArray, List.set_cons_succ, List.set_cons_zero]
        refine takeW 8 58 (.int .i64 (j : Int)) rfl rfl (by kernel_rfl) (by kernel_rfl) (by kernel_rfl) (fun _ _ _ h => h) rfl (fun wx hSw => by obtain ⟨hs1, hs2⟩ := hSw; go_simp) (by assumption) ?_
        simp only [Act.put, List.setIfInBounds_toArray, List.set_cons_succ, List.set_cons_zero]
        refine takeW 9 59 (.pointer (some ⟨g', j, none⟩)) rfl rfl (by kernel_rfl) (by kernel_rfl) (by kernel_rfl) (fun _ _ _ h => h) rfl (fun wx hSw => by obtain ⟨hs1, hs2⟩ := hSw; go_simp) (by assumption) ?_
        simp only [Act.put, List.setIfInBounds_toArray, List.set_cons_succ, List.set_cons_zero]
        refine wpAnyH_ready (rs := [5, 10]) (by kernel_rfl) (by simp) ?_
        refine AllReadyH.cons rfl (fun Kx hK => ?_) (AllReadyH.cons rfl (fun Kx hK => ?_) AllReadyH.nil)
        · go_simp
          refine hK.out _ _ (by assumption) (fun hHeld2 => ?_)
          clear hK Kx
          refine wpAnyH_ready (rs := [10]) (by kernel_rfl) (by simp) ?_
          refine AllReadyH.cons rfl (fun Kx hK => ?_) AllReadyH.nil
          go_simp
          refine hK.out _ _ (by assumption) (fun hHeld3 => ?_)
          clear hK Kx
          refine takeW 11 61 (.int .i64 (z * y)) rfl rfl (by kernel_rfl) (by kernel_rfl) (by kernel_rfl) (fun _ _ _ h => h) rfl (fun wx hSw => by obtain ⟨hs1, hs2⟩ := hSw; go_simp) (by assumption) ?_
          simp only [Act.put, List.setIfInBounds_toArray, List.set_cons_succ, List.set_cons_zero]
          refine wpAnyH_ready (rs := [12]) (by kernel_rfl) (by simp) ?_
          refine AllReadyH.cons rfl (fun Kx hK => ?_) AllReadyH.nil
          go_simp
          refine (unhide HCap _).mono ?_
          rintro e Wx ⟨rfl, hWx⟩
          subst hWx
          refine hK.out _ _ (by assumption) (fun hHeld4 => ?_)
          clear hK Kx
          refine wpAnyH_ready (rs := [13]) (by kernel_rfl) (by simp) ?_
          refine AllReadyH.cons rfl (fun Kx hK => ?_) AllReadyH.nil
          go_simp
          refine hK.out _ _ ⟨(World.cell?_alloc_some Wb _ _ (by rw [n5]; rfl)).trans n5, (World.cell?_alloc_some Wb _ _ (by rw [n6]; rfl)).trans n6⟩ (fun hHeld5 => ?_)
          clear hK Kx
          refine wpAnyH_ready (rs := [14]) (by kernel_rfl) (by simp) ?_
          refine AllReadyH.cons rfl (fun Kx hK => ?_) AllReadyH.nil
          refine step_append_lies _ rfl (.tmp 50) (.tmp 63) 62 rfl (w.heap.size + 2) 3 ii _ 1 8 Tryd.underlying62 hi hz0 hz1 hz2 rfl (by decide) (.slice (some ⟨g', 0, none⟩) k cap') k (vInts (sizTo ts ps k)) rfl (by have := ((unhide HOb).of (Below.refl _ _).drew).of (bA (Below.refl _ _) (.cells #[.int .i64 (z2)] 3)); unfold OwnI at this; rw [sizTo_length] at this; exact this) ⟨Wb.drew.heap.size, 0, none⟩ 1 1 [.int .i64 (z2)] rfl rfl (World.news_of_block (cs := #[.int .i64 (z2)]) (MapKept.heap_alloc Wb.drew _).1) (by intro u hu; simp at hu; subst hu; rfl) (by decide) (by unfold maxLen; omega) (by omega) (by simp; omega) _ rfl ?_
          intro g2 cap2 w2 hown2 hgrow hat2 hlt2
          have hcell : ∀ o, w2.cell? ⟨bx, o, none⟩ = Wb.cell? ⟨bx, o, none⟩ := fun o => (hgrow.cell_far ⟨bx, o, none⟩ (by simp; omega) (by simp [Value.ownBlock]; omega)).trans (World.cell?_alloc_lt _ _ _ (show bx < Wb.drew.heap.size from hsb))
          have HO2 : Hid (OwnI w2 (w.heap.size + 2) g2 cap2 (sizTo ts ps (k + 1))) := by
            show OwnI _ _ _ _ _
            rw [sizTo_succ, unhide HSz]
            exact OwnI.push (sizTo_length ts ps k) hown2
          have hbx : Below (w.heap.size + 2) Wb.drew w2 := ((Below.refl (w.heap.size + 2) Wb.drew).alloc (by omega) (.cells #[.int .i64 (z2)] 3)).grown hgrow (by simp; omega) (fun j hj => by
            have : g' = j := by simpa [Value.ownBlock] using hj
            omega)
          have HF2 := hide (((unhide HFb).of (Below.refl _ _).drew).ofB hbx (by omega) (by omega))
          have HB2 : Hid (Below w.heap.size w w2) := (unhide HBw).drew.trans (hbx.mono (by omega))
          clear hown2 hgrow hat2 HOb HSz
          refine hK.out _ _ ⟨(hcell 5).trans n5, (hcell 6).trans n6⟩ (fun hHeld6 => ?_)
          clear hK Kx hcell
          refine takeW 15 5 (.slice (some ⟨g2, 0, none⟩) (k + 1) cap2) rfl rfl (by kernel_rfl) (by kernel_rfl) (by kernel_rfl) (fun _ _ _ h => h) rfl (fun wx hSw => by obtain ⟨hs1, hs2⟩ := hSw; go_simp) (by assumption) ?_
          simp only [Act.put, List.setIfInBounds_toArray]
          refine wpAnyH_done (by kernel_rfl) ?_ _
          go_wp2
          go_roundw
          case rel => exact ⟨k + 1, g2, cap2, by omega, by go_num, rfl, HO2.out, unhide HF2, HB2.out⟩
          case measure => simp [intOf]; omega
        · go_simp
          refine hK.out _ _ (by assumption) (fun hHeld2 => ?_)
          clear hK Kx
          refine wpAnyH_ready (rs := [5]) (by kernel_rfl) (by simp) ?_
          refine AllReadyH.cons rfl (fun Kx hK => ?_) AllReadyH.nil
          go_simp
          refine hK.out _ _ (by assumption) (fun hHeld3 => ?_)
          clear hK Kx
          refine takeW 11 61 (.int .i64 (z * y)) rfl rfl (by kernel_rfl) (by kernel_rfl) (by kernel_rfl) (fun _ _ _ h => h) rfl (fun wx hSw => by obtain ⟨hs1, hs2⟩ := hSw; go_simp) (by assumption) ?_
          simp only [Act.put, List.setIfInBounds_toArray, List.set_cons_succ, List.set_cons_zero]
          refine wpAnyH_ready (rs := [12]) (by kernel_rfl) (by simp) ?_
          refine AllReadyH.cons rfl (fun Kx hK => ?_) AllReadyH.nil
          go_simp
          refine (unhide HCap _).mono ?_
          rintro e Wx ⟨rfl, hWx⟩
          subst hWx
          refine hK.out _ _ (by assumption) (fun hHeld4 => ?_)
          clear hK Kx
          refine wpAnyH_ready (rs := [13]) (by kernel_rfl) (by simp) ?_
          refine AllReadyH.cons rfl (fun Kx hK => ?_) AllReadyH.nil
          go_simp
          refine hK.out _ _ ⟨(World.cell?_alloc_some Wb _ _ (by rw [n5]; rfl)).trans n5, (World.cell?_alloc_some Wb _ _ (by rw [n6]; rfl)).trans n6⟩ (fun hHeld5 => ?_)
          clear hK Kx
          refine wpAnyH_ready (rs := [14]) (by kernel_rfl) (by simp) ?_
          refine AllReadyH.cons rfl (fun Kx hK => ?_) AllReadyH.nil
          refine step_append_lies _ rfl (.tmp 50) (.tmp 63) 62 rfl (w.heap.size + 2) 3 ii _ 1 8 Tryd.underlying62 hi hz0 hz1 hz2 rfl (by decide) (.slice (some ⟨g', 0, none⟩) k cap') k (vInts (sizTo ts ps k)) rfl (by have := ((unhide HOb).of (Below.refl _ _).drew).of (bA (Below.refl _ _) (.cells #[.int .i64 (z2)] 3)); unfold OwnI at this; rw [sizTo_length] at this; exact this) ⟨Wb.drew.heap.size, 0, none⟩ 1 1 [.int .i64 (z2)] rfl rfl (World.news_of_block (cs := #[.int .i64 (z2)]) (MapKept.heap_alloc Wb.drew _).1) (by intro u hu; simp at hu; subst hu; rfl) (by decide) (by unfold maxLen; omega) (by omega) (by simp; omega) _ rfl ?_
          intro g2 cap2 w2 hown2 hgrow hat2 hlt2
          have hcell : ∀ o, w2.cell? ⟨bx, o, none⟩ = Wb.cell? ⟨bx, o, none⟩ := fun o => (hgrow.cell_far ⟨bx, o, none⟩ (by simp; omega) (by simp [Value.ownBlock]; omega)).trans (World.cell?_alloc_lt _ _ _ (show bx < Wb.drew.heap.size from hsb))
          have HO2 : Hid (OwnI w2 (w.heap.size + 2) g2 cap2 (sizTo ts ps (k + 1))) := by
            show OwnI _ _ _ _ _
            rw [sizTo_succ, unhide HSz]
            exact OwnI.push (sizTo_length ts ps k) hown2
          have hbx : Below (w.heap.size + 2) Wb.drew w2 := ((Below.refl (w.heap.size + 2) Wb.drew).alloc (by omega) (.cells #[.int .i64 (z2)] 3)).grown hgrow (by simp; omega) (fun j hj => by
            have : g' = j := by simpa [Value.ownBlock] using hj
            omega)
          have HF2 := hide (((unhide HFb).of (Below.refl _ _).drew).ofB hbx (by omega) (by omega))
          have HB2 : Hid (Below w.heap.size w w2) := (unhide HBw).drew.trans (hbx.mono (by omega))
          clear hown2 hgrow hat2 HOb HSz
          refine hK.out _ _ ⟨(hcell 5).trans n5, (hcell 6).trans n6⟩ (fun hHeld6 => ?_)
          clear hK Kx hcell
          refine takeW 15 5 (.slice (some ⟨g2, 0, none⟩) (k + 1) cap2) rfl rfl (by kernel_rfl) (by kernel_rfl) (by kernel_rfl) (fun _ _ _ h => h) rfl (fun wx hSw => by obtain ⟨hs1, hs2⟩ := hSw; go_simp) (by assumption) ?_
          simp only [Act.put, List.setIfInBounds_toArray]
          refine wpAnyH_done (by kernel_rfl) ?_ _
          go_wp2
          go_roundw
          case rel => exact ⟨k + 1, g2, cap2, by omega, by go_num, rfl, HO2.out, unhide HF2, HB2.out⟩
          case measure => simp [intOf]; omega
      · obtain ⟨hL0, hL1⟩ := (unhide HKid).1 (by decide)
        obtain ⟨hR0, hR1⟩ := (unhide HKid).2 (by decide)
        obtain ⟨q, rfl⟩ : ∃ q : Nat, L = (q : Int) := ⟨L.toNat, by omega⟩
        obtain ⟨j, rfl⟩ : ∃ j : Nat, R = (j : Int) := ⟨R.toNat, by omega⟩
        have hq : q < k := by omega
        have hj : j < k := by omega
        have hqk : (q : Int) < (k : Int) := by omega
        have hjk : (j : Int) < (k : Int) := by omega
        have HRl : Hid (siz ts ps k = capW (siz ts ps q * siz ts ps j)) := by show _ = _; rw [unhide HSz]; simp
        clear HSz
        have HSz := HRl
        clear HRl
        have rq := unhide HAt q hq
        have rj := unhide HAt j hj
        simp only [Nat.zero_add] at rq rj
        obtain ⟨hz10, hz11⟩ := siz_range ts ps (q + 1) q (by omega)
        obtain ⟨hy10, hy11⟩ := siz_range ts ps (j + 1) j (by omega)
        generalize siz ts ps q = z at *
        generalize siz ts ps j = y at *
        have hm0 : 0 ≤ z * y := Int.mul_nonneg hz10 hy10
        have hm1 : z * y ≤ 2001 * 2001 := Int.mul_le_mul hz11 hy11 hy10 (by omega)
        have hwp : IntKind.i64.wrap (z * y) = z * y := wrap_small _ (by omega) (by omega)
        have HCap := hide (fun W => l3Cap_calls (z * y) W)
        go_upto_region 11 with fail
        have hB0 := bA (Below.refl wr.heap.size wr) (.cells #[.int .i64 6, .int .i64 T, .int .i64 M, .slice (some ⟨b3, 0, none⟩) Ex.length Ex.length, .slice (some ⟨b4, 0, none⟩) Exs.length Exs.length, .int .i64 (q : Int), .int .i64 (j : Int)] 93)
        have HOb := hide ((unhide HO).of hB0)
        have HFb := hide (F.of hB0)
        have HBw := hide (bT hb hB0)
        have hsb : wr.heap.size < (wr.alloc (.cells #[.int .i64 6, .int .i64 T, .int .i64 M, .slice (some ⟨b3, 0, none⟩) Ex.length Ex.length, .slice (some ⟨b4, 0, none⟩) Exs.length Exs.length, .int .i64 (q : Int), .int .i64 (j : Int)] 93)).heap.size := by simp
        have n5 : (wr.alloc (.cells #[.int .i64 6, .int .i64 T, .int .i64 M, .slice (some ⟨b3, 0, none⟩) Ex.length Ex.length, .slice (some ⟨b4, 0, none⟩) Exs.length Exs.length, .int .i64 (q : Int), .int .i64 (j : Int)] 93)).cell? ⟨wr.heap.size, 5, none⟩ = some (.int .i64 (q : Int)) := by simp [go_sem]
        have n6 : (wr.alloc (.cells #[.int .i64 6, .int .i64 T, .int .i64 M, .slice (some ⟨b3, 0, none⟩) Ex.length Ex.length, .slice (some ⟨b4, 0, none⟩) Exs.length Exs.length, .int .i64 (q : Int), .int .i64 (j : Int)] 93)).cell? ⟨wr.heap.size, 6, none⟩ = some (.int .i64 (j : Int)) := by simp [go_sem]
        have rqb := (hB0.cell (p := ⟨g', q, none⟩) hgl).trans rq
        have rjb := (hB0.cell (p := ⟨g', j, none⟩) hgl).trans rj
        have hglb : g' < (wr.alloc (.cells #[.int .i64 6, .int .i64 T, .int .i64 M, .slice (some ⟨b3, 0, none⟩) Ex.length Ex.length, .slice (some ⟨b4, 0, none⟩) Exs.length Exs.length, .int .i64 (q : Int), .int .i64 (j : Int)] 93)).heap.size := by simp; omega
        have hgx : g' < wr.heap.size := hgl
        clear rq rj hB0 hL0 hL1 hR0 hR1
        clear c0 c1 c2 c3 c4 c5 c6 fp fd fs F hb HO HTab HU HKid HAt
        generalize (wr.alloc (.cells #[.int .i64 6, .int .i64 T, .int .i64 M, .slice (some ⟨b3, 0, none⟩) Ex.length Ex.length, .slice (some ⟨b4, 0, none⟩) Exs.length Exs.length, .int .i64 (q : Int), .int .i64 (j : Int)] 93)) = Wb at *
        have hWs : w.heap.size + 2 ≤ Wb.heap.size := by omega
        clear hgl q1 q3 fs0
        generalize wr.heap.size = bx at *
        generalize capW (z * y) = z2 at *
        have hWd : w.heap.size + 2 ≤ Wb.drew.heap.size := hWs
        have hsd : bx < Wb.drew.heap.size := hsb
        refine wp_region_held_drew (S := fun W => W.cell? ⟨bx, 5, none⟩ = some (.int .i64 (q : Int)) ∧ W.cell? ⟨bx, 6, none⟩ = some (.int .i64 (j : Int))) (by kernel_rfl) ⟨n5, n6⟩ (fun hHeld => ?_)
        refine takeW 0 50 (.slice (some ⟨g', 0, none⟩) k cap') rfl rfl (by kernel_rfl) (by kernel_rfl) (by kernel_rfl) (fun _ _ _ h => h) rfl (fun wx hSw => by obtain ⟨hs1, hs2⟩ := hSw; go_simp) (by assumption) ?_
        simp only [Act.put, List.setIfInBounds_toArray, List.set_cons_succ, List.set_cons_zero]
        refine takeW 1 51 (.slice (some ⟨g', 0, none⟩) k cap') rfl rfl (by kernel_rfl) (by kernel_rfl) (by kernel_rfl) (fun _ _ _ h => h) rfl (fun wx hSw => by obtain ⟨hs1, hs2⟩ := hSw; go_simp) (by assumption) ?_
        simp only [Act.put, List.setIfInBounds_toArray, List.set_cons_succ, List.set_cons_zero]
        refine takeW 2 52 (.pointer (some ⟨bx, 5, none⟩)) rfl rfl (by kernel_rfl) (by kernel_rfl) (by kernel_rfl) (fun _ _ _ h => h) rfl (fun wx hSw => by obtain ⟨hs1, hs2⟩ := hSw; go_simp) (by assumption) ?_
        simp only [Act.put, List.setIfInBounds_toArray, List.set_cons_succ, List.set_cons_zero]
        refine takeW 3 53 (.int .i64 (q : Int)) rfl rfl (by kernel_rfl) (by kernel_rfl) (by kernel_rfl) (fun _ _ _ h => h) rfl (fun wx hSw => by obtain ⟨hs1, hs2⟩ := hSw; go_simp) (by assumption) ?_
        simp only [Act.put, List.setIfInBounds_toArray, List.set_cons_succ, List.set_cons_zero]
        refine takeW 4 54 (.pointer (some ⟨g', q, none⟩)) rfl rfl (by kernel_rfl) (by kernel_rfl) (by kernel_rfl) (fun _ _ _ h => h) rfl (fun wx hSw => by obtain ⟨hs1, hs2⟩ := hSw; go_simp) (by assumption) ?_
        simp only [Act.put, List.setIfInBounds_toArray, List.set_cons_succ, List.set_cons_zero]
        refine takeW 6 56 (.slice (some ⟨g', 0, none⟩) k cap') rfl rfl (by kernel_rfl) (by kernel_rfl) (by kernel_rfl) (fun _ _ _ h => h) rfl (fun wx hSw => by obtain ⟨hs1, hs2⟩ := hSw; go_simp) (by assumption) ?_
        simp only [Act.put, List.setIfInBounds_toArray, List.set_cons_succ, List.set_cons_zero]
        refine takeW 7 57 (.pointer (some ⟨bx, 6, none⟩)) rfl rfl (by kernel_rfl) (by kernel_rfl) (by kernel_rfl) (fun _ _ _ h => h) rfl (fun wx hSw => by obtain ⟨hs1, hs2⟩ := hSw; go_simp) (by assumption) ?_
        simp only [Act.put, List.setIfInBounds_toArray, List.set_cons_succ, List.set_cons_zero]
        refine takeW 8 58 (.int .i64 (j : Int)) rfl rfl (by kernel_rfl) (by kernel_rfl) (by kernel_rfl) (fun _ _ _ h => h) rfl (fun wx hSw => by obtain ⟨hs1, hs2⟩ := hSw; go_simp) (by assumption) ?_
        simp only [Act.put, List.setIfInBounds_toArray, List.set_cons_succ, List.set_cons_zero]
        refine takeW 9 59 (.pointer (some ⟨g', j, none⟩)) rfl rfl (by kernel_rfl) (by kernel_rfl) (by kernel_rfl) (fun _ _ _ h => h) rfl (fun wx hSw => by obtain ⟨hs1, hs2⟩ := hSw; go_simp) (by assumption) ?_
        simp only [Act.put, List.setIfInBounds_toArray, List.set_cons_succ, List.set_cons_zero]
        refine wpAnyH_ready (rs := [5, 10]) (by kernel_rfl) (by simp) ?_
        refine AllReadyH.cons rfl (fun Kx hK => ?_) (AllReadyH.cons rfl (fun Kx hK => ?_) AllReadyH.nil)
        · go_simp
          refine hK.out _ _ (by assumption) (fun hHeld2 => ?_)
          clear hK Kx
          refine wpAnyH_ready (rs := [10]) (by kernel_rfl) (by simp) ?_
          refine AllReadyH.cons rfl (fun Kx hK => ?_) AllReadyH.nil
          go_simp
          refine hK.out _ _ (by assumption) (fun hHeld3 => ?_)
          clear hK Kx
          refine takeW 11 61 (.int .i64 (z * y)) rfl rfl (by kernel_rfl) (by kernel_rfl) (by kernel_rfl) (fun _ _ _ h => h) rfl (fun wx hSw => by obtain ⟨hs1, hs2⟩ := hSw; go_simp) (by assumption) ?_
          simp only [Act.put, List.setIfInBounds_toArray, List.set_cons_succ, List.set_cons_zero]
          refine wpAnyH_ready (rs := [12]) (by kernel_rfl) (by simp) ?_
          refine AllReadyH.cons rfl (fun Kx hK => ?_) AllReadyH.nil
          go_simp
          refine (unhide HCap _).mono ?_
          rintro e Wx ⟨rfl, hWx⟩
          subst hWx
          refine hK.out _ _ (by assumption) (fun hHeld4 => ?_)
          clear hK Kx
          refine wpAnyH_ready (rs := [13]) (by kernel_rfl) (by simp) ?_
          refine AllReadyH.cons rfl (fun Kx hK => ?_) AllReadyH.nil
          go_simp
          refine hK.out _ _ ⟨(World.cell?_alloc_some Wb _ _ (by rw [n5]; rfl)).trans n5, (World.cell?_alloc_some Wb _ _ (by rw [n6]; rfl)).trans n6⟩ (fun hHeld5 => ?_)
          clear hK Kx
          refine wpAnyH_ready (rs := [14]) (by kernel_rfl) (by simp) ?_
          refine AllReadyH.cons rfl (fun Kx hK => ?_) AllReadyH.nil
          refine step_append_lies _ rfl (.tmp 50) (.tmp 63) 62 rfl (w.heap.size + 2) 3 ii _ 1 8 Tryd.underlying62 hi hz0 hz1 hz2 rfl (by decide) (.slice (some ⟨g', 0, none⟩) k cap') k (vInts (sizTo ts ps k)) rfl (by have := ((unhide HOb).of (Below.refl _ _).drew).of (bA (Below.refl _ _) (.cells #[.int .i64 (z2)] 3)); unfold OwnI at this; rw [sizTo_length] at this; exact this) ⟨Wb.drew.heap.size, 0, none⟩ 1 1 [.int .i64 (z2)] rfl rfl (World.news_of_block (cs := #[.int .i64 (z2)]) (MapKept.heap_alloc Wb.drew _).1) (by intro u hu; simp at hu; subst hu; rfl) (by decide) (by unfold maxLen; omega) (by omega) (by simp; omega) _ rfl ?_
          intro g2 cap2 w2 hown2 hgrow hat2 hlt2
          have hcell : ∀ o, w2.cell? ⟨bx, o, none⟩ = Wb.cell? ⟨bx, o, none⟩ := fun o => (hgrow.cell_far ⟨bx, o, none⟩ (by simp; omega) (by simp [Value.ownBlock]; omega)).trans (World.cell?_alloc_lt _ _ _ (show bx < Wb.drew.heap.size from hsb))
          have HO2 : Hid (OwnI w2 (w.heap.size + 2) g2 cap2 (sizTo ts ps (k + 1))) := by
            show OwnI _ _ _ _ _
            rw [sizTo_succ, unhide HSz]
            exact OwnI.push (sizTo_length ts ps k) hown2
          have hbx : Below (w.heap.size + 2) Wb.drew w2 := ((Below.refl (w.heap.size + 2) Wb.drew).alloc (by omega) (.cells #[.int .i64 (z2)] 3)).grown hgrow (by simp; omega) (fun j hj => by
            have : g' = j := by simpa [Value.ownBlock] using hj
            omega)
          have HF2 := hide (((unhide HFb).of (Below.refl _ _).drew).ofB hbx (by omega) (by omega))
          have HB2 : Hid (Below w.heap.size w w2) := (unhide HBw).drew.trans (hbx.mono (by omega))
          clear hown2 hgrow hat2 HOb HSz
          refine hK.out _ _ ⟨(hcell 5).trans n5, (hcell 6).trans n6⟩ (fun hHeld6 => ?_)
          clear hK Kx hcell
          refine takeW 15 5 (.slice (some ⟨g2, 0, none⟩) (k + 1) cap2) rfl rfl (by kernel_rfl) (by kernel_rfl) (by kernel_rfl) (fun _ _ _ h => h) rfl (fun wx hSw => by obtain ⟨hs1, hs2⟩ := hSw; go_simp) (by assumption) ?_
          simp only [Act.put, List.setIfInBounds_toArray]
          refine wpAnyH_done (by kernel_rfl) ?_ _
          go_wp2
          go_roundw
          case rel => exact ⟨k + 1, g2, cap2, by omega, by go_num, rfl, HO2.out, unhide HF2, HB2.out⟩
          case measure => simp [intOf]; omega
        · go_simp
          refine hK.out _ _ (by assumption) (fun hHeld2 => ?_)
          clear hK Kx
          refine wpAnyH_ready (rs := [5]) (by kernel_rfl) (by simp) ?_
          refine AllReadyH.cons rfl (fun Kx hK => ?_) AllReadyH.nil
          go_simp
          refine hK.out _ _ (by assumption) (fun hHeld3 => ?_)
          clear hK Kx
          refine takeW 11 61 (.int .i64 (z * y)) rfl rfl (by kernel_rfl) (by kernel_rfl) (by kernel_rfl) (fun _ _ _ h => h) rfl (fun wx hSw => by obtain ⟨hs1, hs2⟩ := hSw; go_simp) (by assumption) ?_
          simp only [Act.put, List.setIfInBounds_toArray, List.set_cons_succ, List.set_cons_zero]
          refine wpAnyH_ready (rs := [12]) (by kernel_rfl) (by simp) ?_
          refine AllReadyH.cons rfl (fun Kx hK => ?_) AllReadyH.nil
          go_simp
          refine (unhide HCap _).mono ?_
          rintro e Wx ⟨rfl, hWx⟩
          subst hWx
          refine hK.out _ _ (by assumption) (fun hHeld4 => ?_)
          clear hK Kx
          refine wpAnyH_ready (rs := [13]) (by kernel_rfl) (by simp) ?_
          refine AllReadyH.cons rfl (fun Kx hK => ?_) AllReadyH.nil
          go_simp
          refine hK.out _ _ ⟨(World.cell?_alloc_some Wb _ _ (by rw [n5]; rfl)).trans n5, (World.cell?_alloc_some Wb _ _ (by rw [n6]; rfl)).trans n6⟩ (fun hHeld5 => ?_)
          clear hK Kx
          refine wpAnyH_ready (rs := [14]) (by kernel_rfl) (by simp) ?_
          refine AllReadyH.cons rfl (fun Kx hK => ?_) AllReadyH.nil
          refine step_append_lies _ rfl (.tmp 50) (.tmp 63) 62 rfl (w.heap.size + 2) 3 ii _ 1 8 Tryd.underlying62 hi hz0 hz1 hz2 rfl (by decide) (.slice (some ⟨g', 0, none⟩) k cap') k (vInts (sizTo ts ps k)) rfl (by have := ((unhide HOb).of (Below.refl _ _).drew).of (bA (Below.refl _ _) (.cells #[.int .i64 (z2)] 3)); unfold OwnI at this; rw [sizTo_length] at this; exact this) ⟨Wb.drew.heap.size, 0, none⟩ 1 1 [.int .i64 (z2)] rfl rfl (World.news_of_block (cs := #[.int .i64 (z2)]) (MapKept.heap_alloc Wb.drew _).1) (by intro u hu; simp at hu; subst hu; rfl) (by decide) (by unfold maxLen; omega) (by omega) (by simp; omega) _ rfl ?_
          intro g2 cap2 w2 hown2 hgrow hat2 hlt2
          have hcell : ∀ o, w2.cell? ⟨bx, o, none⟩ = Wb.cell? ⟨bx, o, none⟩ := fun o => (hgrow.cell_far ⟨bx, o, none⟩ (by simp; omega) (by simp [Value.ownBlock]; omega)).trans (World.cell?_alloc_lt _ _ _ (show bx < Wb.drew.heap.size from hsb))
          have HO2 : Hid (OwnI w2 (w.heap.size + 2) g2 cap2 (sizTo ts ps (k + 1))) := by
            show OwnI _ _ _ _ _
            rw [sizTo_succ, unhide HSz]
            exact OwnI.push (sizTo_length ts ps k) hown2
          have hbx : Below (w.heap.size + 2) Wb.drew w2 := ((Below.refl (w.heap.size + 2) Wb.drew).alloc (by omega) (.cells #[.int .i64 (z2)] 3)).grown hgrow (by simp; omega) (fun j hj => by
            have : g' = j := by simpa [Value.ownBlock] using hj
            omega)
          have HF2 := hide (((unhide HFb).of (Below.refl _ _).drew).ofB hbx (by omega) (by omega))
          have HB2 : Hid (Below w.heap.size w w2) := (unhide HBw).drew.trans (hbx.mono (by omega))
          clear hown2 hgrow hat2 HOb HSz
          refine hK.out _ _ ⟨(hcell 5).trans n5, (hcell 6).trans n6⟩ (fun hHeld6 => ?_)
          clear hK Kx hcell
          refine takeW 15 5 (.slice (some ⟨g2, 0, none⟩) (k + 1) cap2) rfl rfl (by kernel_rfl) (by kernel_rfl) (by kernel_rfl) (fun _ _ _ h => h) rfl (fun wx hSw => by obtain ⟨hs1, hs2⟩ := hSw; go_simp) (by assumption) ?_
          simp only [Act.put, List.setIfInBounds_toArray]
          refine wpAnyH_done (by kernel_rfl) ?_ _
          go_wp2
          go_roundw
          case rel => exact ⟨k + 1, g2, cap2, by omega, by go_num, rfl, HO2.out, unhide HF2, HB2.out⟩
          case measure => simp [intOf]; omega
      · obtain ⟨hL0, hL1⟩ := (unhide HKid).1 (by decide)
        obtain ⟨q, rfl⟩ : ∃ q : Nat, L = (q : Int) := ⟨L.toNat, by omega⟩
        have hq : q < k := by omega
        have hqk : (q : Int) < (k : Int) := by omega
        have HRl : Hid (siz ts ps k = siz ts ps q) := by show _ = _; rw [unhide HSz]; simp
        clear HSz
        have HSz := HRl
        clear HRl
        have rq := unhide HAt q hq
        simp only [Nat.zero_add] at rq
        generalize siz ts ps q = z at *
        go_upto_region 14 with fail
        have hB0 := bA (Below.refl wr.heap.size wr) (.cells #[.int .i64 7, .int .i64 T, .int .i64 M, .slice (some ⟨b3, 0, none⟩) Ex.length Ex.length, .slice (some ⟨b4, 0, none⟩) Exs.length Exs.length, .int .i64 (q : Int), .int .i64 R] 93)
        have HOb := hide ((unhide HO).of hB0)
        have HFb := hide (F.of hB0)
        have HBw := hide (bT hb hB0)
        have hsb : wr.heap.size < (wr.alloc (.cells #[.int .i64 7, .int .i64 T, .int .i64 M, .slice (some ⟨b3, 0, none⟩) Ex.length Ex.length, .slice (some ⟨b4, 0, none⟩) Exs.length Exs.length, .int .i64 (q : Int), .int .i64 R] 93)).heap.size := by simp
        have n5 : (wr.alloc (.cells #[.int .i64 7, .int .i64 T, .int .i64 M, .slice (some ⟨b3, 0, none⟩) Ex.length Ex.length, .slice (some ⟨b4, 0, none⟩) Exs.length Exs.length, .int .i64 (q : Int), .int .i64 R] 93)).cell? ⟨wr.heap.size, 5, none⟩ = some (.int .i64 (q : Int)) := by simp [go_sem]
        have rqb := (hB0.cell (p := ⟨g', q, none⟩) hgl).trans rq
        have hglb : g' < (wr.alloc (.cells #[.int .i64 7, .int .i64 T, .int .i64 M, .slice (some ⟨b3, 0, none⟩) Ex.length Ex.length, .slice (some ⟨b4, 0, none⟩) Exs.length Exs.length, .int .i64 (q : Int), .int .i64 R] 93)).heap.size := by simp; omega
        clear rq hB0 hL0 hL1
        clear c0 c1 c2 c3 c4 c5 c6 fp fd fs F hb HO HTab HU HKid HAt
        generalize (wr.alloc (.cells #[.int .i64 7, .int .i64 T, .int .i64 M, .slice (some ⟨b3, 0, none⟩) Ex.length Ex.length, .slice (some ⟨b4, 0, none⟩) Exs.length Exs.length, .int .i64 (q : Int), .int .i64 R] 93)) = Wb at *
        have hWs : w.heap.size + 2 ≤ Wb.heap.size := by omega
        clear hgl q1 q3 fs0
        generalize wr.heap.size = bx at *
        go_wp2_with (at_builtin; refine wpList_append_lies _ rfl (.tmp 83) (.tmp 89) 62 rfl (w.heap.size + 2) 3 ii _ 1 8 Tryd.underlying62 hi hz0 hz1 hz2 rfl (by decide) (.slice (some ⟨g', 0, none⟩) k cap') k (vInts (sizTo ts ps k)) rfl (by have := (unhide HOb).of (bA (Below.refl _ _) (.cells #[.int .i64 (z)] 3)); unfold OwnI at this; rw [sizTo_length] at this; exact this) ⟨Wb.heap.size, 0, none⟩ 1 1 [.int .i64 (z)] rfl rfl (World.news_of_block (cs := #[.int .i64 (z)]) (MapKept.heap_alloc Wb _).1) (by intro u hu; simp at hu; subst hu; rfl) (by decide) (by unfold maxLen; omega) (by omega) (by simp; omega) _ rfl ?_; intro g2 cap2 w2 hown2 hgrow hat2 hlt2)
        have HO2 : Hid (OwnI w2 (w.heap.size + 2) g2 cap2 (sizTo ts ps (k + 1))) := by
          show OwnI _ _ _ _ _
          rw [sizTo_succ, unhide HSz]
          exact OwnI.push (sizTo_length ts ps k) hown2
        have hbx : Below (w.heap.size + 2) Wb w2 := ((Below.refl (w.heap.size + 2) Wb).alloc (by omega) (.cells #[.int .i64 (z)] 3)).grown hgrow (by simp; omega) (fun j hj => by
          have : g' = j := by simpa [Value.ownBlock] using hj
          omega)
        have HF2 := hide ((unhide HFb).ofB hbx (by omega) (by omega))
        have HB2 : Hid (Below w.heap.size w w2) := (unhide HBw).trans (hbx.mono (by omega))
        clear hown2 hgrow hbx hat2 HOb HSz
        go_wp2
        go_roundw
        case rel => exact ⟨k + 1, g2, cap2, by omega, by go_num, rfl, HO2.out, unhide HF2, HB2.out⟩
        case measure => simp [intOf]; omega
      · obtain ⟨hL0, hL1⟩ := (unhide HKid).1 (by decide)
        obtain ⟨q, rfl⟩ : ∃ q : Nat, L = (q : Int) := ⟨L.toNat, by omega⟩
        have hq : q < k := by omega
        have hqk : (q : Int) < (k : Int) := by omega
        have HRl : Hid (siz ts ps k = siz ts ps q) := by show _ = _; rw [unhide HSz]; simp
        clear HSz
        have HSz := HRl
        clear HRl
        have rq := unhide HAt q hq
        simp only [Nat.zero_add] at rq
        generalize siz ts ps q = z at *
        go_upto_region 14 with fail
        have hB0 := bA (Below.refl wr.heap.size wr) (.cells #[.int .i64 8, .int .i64 T, .int .i64 M, .slice (some ⟨b3, 0, none⟩) Ex.length Ex.length, .slice (some ⟨b4, 0, none⟩) Exs.length Exs.length, .int .i64 (q : Int), .int .i64 R] 93)
        have HOb := hide ((unhide HO).of hB0)
        have HFb := hide (F.of hB0)
        have HBw := hide (bT hb hB0)
        have hsb : wr.heap.size < (wr.alloc (.cells #[.int .i64 8, .int .i64 T, .int .i64 M, .slice (some ⟨b3, 0, none⟩) Ex.length Ex.length, .slice (some ⟨b4, 0, none⟩) Exs.length Exs.length, .int .i64 (q : Int), .int .i64 R] 93)).heap.size := by simp
        have n5 : (wr.alloc (.cells #[.int .i64 8, .int .i64 T, .int .i64 M, .slice (some ⟨b3, 0, none⟩) Ex.length Ex.length, .slice (some ⟨b4, 0, none⟩) Exs.length Exs.length, .int .i64 (q : Int), .int .i64 R] 93)).cell? ⟨wr.heap.size, 5, none⟩ = some (.int .i64 (q : Int)) := by simp [go_sem]
        have rqb := (hB0.cell (p := ⟨g', q, none⟩) hgl).trans rq
        have hglb : g' < (wr.alloc (.cells #[.int .i64 8, .int .i64 T, .int .i64 M, .slice (some ⟨b3, 0, none⟩) Ex.length Ex.length, .slice (some ⟨b4, 0, none⟩) Exs.length Exs.length, .int .i64 (q : Int), .int .i64 R] 93)).heap.size := by simp; omega
        clear rq hB0 hL0 hL1
        clear c0 c1 c2 c3 c4 c5 c6 fp fd fs F hb HO HTab HU HKid HAt
        generalize (wr.alloc (.cells #[.int .i64 8, .int .i64 T, .int .i64 M, .slice (some ⟨b3, 0, none⟩) Ex.length Ex.length, .slice (some ⟨b4, 0, none⟩) Exs.length Exs.length, .int .i64 (q : Int), .int .i64 R] 93)) = Wb at *
        have hWs : w.heap.size + 2 ≤ Wb.heap.size := by omega
        clear hgl q1 q3 fs0
        generalize wr.heap.size = bx at *
        go_wp2_with (at_builtin; refine wpList_append_lies _ rfl (.tmp 83) (.tmp 89) 62 rfl (w.heap.size + 2) 3 ii _ 1 8 Tryd.underlying62 hi hz0 hz1 hz2 rfl (by decide) (.slice (some ⟨g', 0, none⟩) k cap') k (vInts (sizTo ts ps k)) rfl (by have := (unhide HOb).of (bA (Below.refl _ _) (.cells #[.int .i64 (z)] 3)); unfold OwnI at this; rw [sizTo_length] at this; exact this) ⟨Wb.heap.size, 0, none⟩ 1 1 [.int .i64 (z)] rfl rfl (World.news_of_block (cs := #[.int .i64 (z)]) (MapKept.heap_alloc Wb _).1) (by intro u hu; simp at hu; subst hu; rfl) (by decide) (by unfold maxLen; omega) (by omega) (by simp; omega) _ rfl ?_; intro g2 cap2 w2 hown2 hgrow hat2 hlt2)
        have HO2 : Hid (OwnI w2 (w.heap.size + 2) g2 cap2 (sizTo ts ps (k + 1))) := by
          show OwnI _ _ _ _ _
          rw [sizTo_succ, unhide HSz]
          exact OwnI.push (sizTo_length ts ps k) hown2
        have hbx : Below (w.heap.size + 2) Wb w2 := ((Below.refl (w.heap.size + 2) Wb).alloc (by omega) (.cells #[.int .i64 (z)] 3)).grown hgrow (by simp; omega) (fun j hj => by
          have : g' = j := by simpa [Value.ownBlock] using hj
          omega)
        have HF2 := hide ((unhide HFb).ofB hbx (by omega) (by omega))
        have HB2 : Hid (Below w.heap.size w w2) := (unhide HBw).trans (hbx.mono (by omega))
        clear hown2 hgrow hbx hat2 HOb HSz
        go_wp2
        go_roundw
        case rel => exact ⟨k + 1, g2, cap2, by omega, by go_num, rfl, HO2.out, unhide HF2, HB2.out⟩
        case measure => simp [intOf]; omega
      · obtain ⟨hL0, hL1⟩ := (unhide HKid).1 (by decide)
        obtain ⟨q, rfl⟩ : ∃ q : Nat, L = (q : Int) := ⟨L.toNat, by omega⟩
        have hq : q < k := by omega
        have hqk : (q : Int) < (k : Int) := by omega
        have HRl : Hid (siz ts ps k = siz ts ps q) := by show _ = _; rw [unhide HSz]; simp
        clear HSz
        have HSz := HRl
        clear HRl
        have rq := unhide HAt q hq
        simp only [Nat.zero_add] at rq
        generalize siz ts ps q = z at *
        go_upto_region 14 with fail
        have hB0 := bA (Below.refl wr.heap.size wr) (.cells #[.int .i64 9, .int .i64 T, .int .i64 M, .slice (some ⟨b3, 0, none⟩) Ex.length Ex.length, .slice (some ⟨b4, 0, none⟩) Exs.length Exs.length, .int .i64 (q : Int), .int .i64 R] 93)
        have HOb := hide ((unhide HO).of hB0)
        have HFb := hide (F.of hB0)
        have HBw := hide (bT hb hB0)
        have hsb : wr.heap.size < (wr.alloc (.cells #[.int .i64 9, .int .i64 T, .int .i64 M, .slice (some ⟨b3, 0, none⟩) Ex.length Ex.length, .slice (some ⟨b4, 0, none⟩) Exs.length Exs.length, .int .i64 (q : Int), .int .i64 R] 93)).heap.size := by simp
        have n5 : (wr.alloc (.cells #[.int .i64 9, .int .i64 T, .int .i64 M, .slice (some ⟨b3, 0, none⟩) Ex.length Ex.length, .slice (some ⟨b4, 0, none⟩) Exs.length Exs.length, .int .i64 (q : Int), .int .i64 R] 93)).cell? ⟨wr.heap.size, 5, none⟩ = some (.int .i64 (q : Int)) := by simp [go_sem]
        have rqb := (hB0.cell (p := ⟨g', q, none⟩) hgl).trans rq
        have hglb : g' < (wr.alloc (.cells #[.int .i64 9, .int .i64 T, .int .i64 M, .slice (some ⟨b3, 0, none⟩) Ex.length Ex.length, .slice (some ⟨b4, 0, none⟩) Exs.length Exs.length, .int .i64 (q : Int), .int .i64 R] 93)).heap.size := by simp; omega
        clear rq hB0 hL0 hL1
        clear c0 c1 c2 c3 c4 c5 c6 fp fd fs F hb HO HTab HU HKid HAt
        generalize (wr.alloc (.cells #[.int .i64 9, .int .i64 T, .int .i64 M, .slice (some ⟨b3, 0, none⟩) Ex.length Ex.length, .slice (some ⟨b4, 0, none⟩) Exs.length Exs.length, .int .i64 (q : Int), .int .i64 R] 93)) = Wb at *
        have hWs : w.heap.size + 2 ≤ Wb.heap.size := by omega
        clear hgl q1 q3 fs0
        generalize wr.heap.size = bx at *
        go_wp2_with (at_builtin; refine wpList_append_lies _ rfl (.tmp 83) (.tmp 89) 62 rfl (w.heap.size + 2) 3 ii _ 1 8 Tryd.underlying62 hi hz0 hz1 hz2 rfl (by decide) (.slice (some ⟨g', 0, none⟩) k cap') k (vInts (sizTo ts ps k)) rfl (by have := (unhide HOb).of (bA (Below.refl _ _) (.cells #[.int .i64 (z)] 3)); unfold OwnI at this; rw [sizTo_length] at this; exact this) ⟨Wb.heap.size, 0, none⟩ 1 1 [.int .i64 (z)] rfl rfl (World.news_of_block (cs := #[.int .i64 (z)]) (MapKept.heap_alloc Wb _).1) (by intro u hu; simp at hu; subst hu; rfl) (by decide) (by unfold maxLen; omega) (by omega) (by simp; omega) _ rfl ?_; intro g2 cap2 w2 hown2 hgrow hat2 hlt2)
        have HO2 : Hid (OwnI w2 (w.heap.size + 2) g2 cap2 (sizTo ts ps (k + 1))) := by
          show OwnI _ _ _ _ _
          rw [sizTo_succ, unhide HSz]
          exact OwnI.push (sizTo_length ts ps k) hown2
        have hbx : Below (w.heap.size + 2) Wb w2 := ((Below.refl (w.heap.size + 2) Wb).alloc (by omega) (.cells #[.int .i64 (z)] 3)).grown hgrow (by simp; omega) (fun j hj => by
          have : g' = j := by simpa [Value.ownBlock] using hj
          omega)
        have HF2 := hide ((unhide HFb).ofB hbx (by omega) (by omega))
        have HB2 : Hid (Below w.heap.size w w2) := (unhide HBw).trans (hbx.mono (by omega))
        clear hown2 hgrow hbx hat2 HOb HSz
        go_wp2
        go_roundw
        case rel => exact ⟨k + 1, g2, cap2, by omega, by go_num, rfl, HO2.out, unhide HF2, HB2.out⟩
        case measure => simp [intOf]; omega
      · obtain ⟨hL0, hL1⟩ := (unhide HKid).1 (by decide)
        obtain ⟨hR0, hR1⟩ := (unhide HKid).2 (by decide)
        obtain ⟨q, rfl⟩ : ∃ q : Nat, L = (q : Int) := ⟨L.toNat, by omega⟩
        obtain ⟨j, rfl⟩ : ∃ j : Nat, R = (j : Int) := ⟨R.toNat, by omega⟩
        have hq : q < k := by omega
        have hj : j < k := by omega
        have hqk : (q : Int) < (k : Int) := by omega
        have hjk : (j : Int) < (k : Int) := by omega
        have HRl : Hid (siz ts ps k = capW (siz ts ps q + siz ts ps j)) := by show _ = _; rw [unhide HSz]; simp
        clear HSz
        have HSz := HRl
        clear HRl
        have rq := unhide HAt q hq
        have rj := unhide HAt j hj
        simp only [Nat.zero_add] at rq rj
        obtain ⟨hz10, hz11⟩ := siz_range ts ps (q + 1) q (by omega)
        obtain ⟨hy10, hy11⟩ := siz_range ts ps (j + 1) j (by omega)
        generalize siz ts ps q = z at *
        generalize siz ts ps j = y at *
        have hm0 : 0 ≤ z * y := Int.mul_nonneg hz10 hy10
        have hm1 : z * y ≤ 2001 * 2001 := Int.mul_le_mul hz11 hy11 hy10 (by omega)
        have hwp : IntKind.i64.wrap (z + y) = z + y := wrap_small _ (by omega) (by omega)
        have HCap := hide (fun W => l3Cap_calls (z + y) W)
        go_upto_region 13 with fail
        have hB0 := bA (Below.refl wr.heap.size wr) (.cells #[.int .i64 10, .int .i64 T, .int .i64 M, .slice (some ⟨b3, 0, none⟩) Ex.length Ex.length, .slice (some ⟨b4, 0, none⟩) Exs.length Exs.length, .int .i64 (q : Int), .int .i64 (j : Int)] 93)
        have HOb := hide ((unhide HO).of hB0)
        have HFb := hide (F.of hB0)
        have HBw := hide (bT hb hB0)
        have hsb : wr.heap.size < (wr.alloc (.cells #[.int .i64 10, .int .i64 T, .int .i64 M, .slice (some ⟨b3, 0, none⟩) Ex.length Ex.length, .slice (some ⟨b4, 0, none⟩) Exs.length Exs.length, .int .i64 (q : Int), .int .i64 (j : Int)] 93)).heap.size := by simp
        have n5 : (wr.alloc (.cells #[.int .i64 10, .int .i64 T, .int .i64 M, .slice (some ⟨b3, 0, none⟩) Ex.length Ex.length, .slice (some ⟨b4, 0, none⟩) Exs.length Exs.length, .int .i64 (q : Int), .int .i64 (j : Int)] 93)).cell? ⟨wr.heap.size, 5, none⟩ = some (.int .i64 (q : Int)) := by simp [go_sem]
        have n6 : (wr.alloc (.cells #[.int .i64 10, .int .i64 T, .int .i64 M, .slice (some ⟨b3, 0, none⟩) Ex.length Ex.length, .slice (some ⟨b4, 0, none⟩) Exs.length Exs.length, .int .i64 (q : Int), .int .i64 (j : Int)] 93)).cell? ⟨wr.heap.size, 6, none⟩ = some (.int .i64 (j : Int)) := by simp [go_sem]
        have rqb := (hB0.cell (p := ⟨g', q, none⟩) hgl).trans rq
        have rjb := (hB0.cell (p := ⟨g', j, none⟩) hgl).trans rj
        have hglb : g' < (wr.alloc (.cells #[.int .i64 10, .int .i64 T, .int .i64 M, .slice (some ⟨b3, 0, none⟩) Ex.length Ex.length, .slice (some ⟨b4, 0, none⟩) Exs.length Exs.length, .int .i64 (q : Int), .int .i64 (j : Int)] 93)).heap.size := by simp; omega
        have hgx : g' < wr.heap.size := hgl
        clear rq rj hB0 hL0 hL1 hR0 hR1
        clear c0 c1 c2 c3 c4 c5 c6 fp fd fs F hb HO HTab HU HKid HAt
        generalize (wr.alloc (.cells #[.int .i64 10, .int .i64 T, .int .i64 M, .slice (some ⟨b3, 0, none⟩) Ex.length Ex.length, .slice (some ⟨b4, 0, none⟩) Exs.length Exs.length, .int .i64 (q : Int), .int .i64 (j : Int)] 93)) = Wb at *
        have hWs : w.heap.size + 2 ≤ Wb.heap.size := by omega
        clear hgl q1 q3 fs0
        generalize wr.heap.size = bx at *
        generalize capW (z + y) = z2 at *
        have hWd : w.heap.size + 2 ≤ Wb.drew.heap.size := hWs
        have hsd : bx < Wb.drew.heap.size := hsb
        refine wp_region_held_drew (S := fun W => W.cell? ⟨bx, 5, none⟩ = some (.int .i64 (q : Int)) ∧ W.cell? ⟨bx, 6, none⟩ = some (.int .i64 (j : Int))) (by kernel_rfl) ⟨n5, n6⟩ (fun hHeld => ?_)
        refine takeW 0 68 (.slice (some ⟨g', 0, none⟩) k cap') rfl rfl (by kernel_rfl) (by kernel_rfl) (by kernel_rfl) (fun _ _ _ h => h) rfl (fun wx hSw => by obtain ⟨hs1, hs2⟩ := hSw; go_simp) (by assumption) ?_
        simp only [Act.put, List.setIfInBounds_toArray, List.set_cons_succ, List.set_cons_zero]
        refine takeW 1 69 (.slice (some ⟨g', 0, none⟩) k cap') rfl rfl (by kernel_rfl) (by kernel_rfl) (by kernel_rfl) (fun _ _ _ h => h) rfl (fun wx hSw => by obtain ⟨hs1, hs2⟩ := hSw; go_simp) (by assumption) ?_
        simp only [Act.put, List.setIfInBounds_toArray, List.set_cons_succ, List.set_cons_zero]
        refine takeW 2 70 (.pointer (some ⟨bx, 5, none⟩)) rfl rfl (by kernel_rfl) (by kernel_rfl) (by kernel_rfl) (fun _ _ _ h => h) rfl (fun wx hSw => by obtain ⟨hs1, hs2⟩ := hSw; go_simp) (by assumption) ?_
        simp only [Act.put, List.setIfInBounds_toArray, List.set_cons_succ, List.set_cons_zero]
        refine takeW 3 71 (.int .i64 (q : Int)) rfl rfl (by kernel_rfl) (by kernel_rfl) (by kernel_rfl) (fun _ _ _ h => h) rfl (fun wx hSw => by obtain ⟨hs1, hs2⟩ := hSw; go_simp) (by assumption) ?_
        simp only [Act.put, List.setIfInBounds_toArray, List.set_cons_succ, List.set_cons_zero]
        refine takeW 4 72 (.pointer (some ⟨g', q, none⟩)) rfl rfl (by kernel_rfl) (by kernel_rfl) (by kernel_rfl) (fun _ _ _ h => h) rfl (fun wx hSw => by obtain ⟨hs1, hs2⟩ := hSw; go_simp) (by assumption) ?_
        simp only [Act.put, List.setIfInBounds_toArray, List.set_cons_succ, List.set_cons_zero]
        refine takeW 6 74 (.slice (some ⟨g', 0, none⟩) k cap') rfl rfl (by kernel_rfl) (by kernel_rfl) (by kernel_rfl) (fun _ _ _ h => h) rfl (fun wx hSw => by obtain ⟨hs1, hs2⟩ := hSw; go_simp) (by assumption) ?_
        simp only [Act.put, List.setIfInBounds_toArray, List.set_cons_succ, List.set_cons_zero]
        refine takeW 7 75 (.pointer (some ⟨bx, 6, none⟩)) rfl rfl (by kernel_rfl) (by kernel_rfl) (by kernel_rfl) (fun _ _ _ h => h) rfl (fun wx hSw => by obtain ⟨hs1, hs2⟩ := hSw; go_simp) (by assumption) ?_
        simp only [Act.put, List.setIfInBounds_toArray, List.set_cons_succ, List.set_cons_zero]
        refine takeW 8 76 (.int .i64 (j : Int)) rfl rfl (by kernel_rfl) (by kernel_rfl) (by kernel_rfl) (fun _ _ _ h => h) rfl (fun wx hSw => by obtain ⟨hs1, hs2⟩ := hSw; go_simp) (by assumption) ?_
        simp only [Act.put, List.setIfInBounds_toArray, List.set_cons_succ, List.set_cons_zero]
        refine takeW 9 77 (.pointer (some ⟨g', j, none⟩)) rfl rfl (by kernel_rfl) (by kernel_rfl) (by kernel_rfl) (fun _ _ _ h => h) rfl (fun wx hSw => by obtain ⟨hs1, hs2⟩ := hSw; go_simp) (by assumption) ?_
        simp only [Act.put, List.setIfInBounds_toArray, List.set_cons_succ, List.set_cons_zero]
        refine wpAnyH_ready (rs := [5, 10]) (by kernel_rfl) (by simp) ?_
        refine AllReadyH.cons rfl (fun Kx hK => ?_) (AllReadyH.cons rfl (fun Kx hK => ?_) AllReadyH.nil)
        · go_simp
          refine hK.out _ _ (by assumption) (fun hHeld2 => ?_)
          clear hK Kx
          refine wpAnyH_ready (rs := [10]) (by kernel_rfl) (by simp) ?_
          refine AllReadyH.cons rfl (fun Kx hK => ?_) AllReadyH.nil
          go_simp
          refine hK.out _ _ (by assumption) (fun hHeld3 => ?_)
          clear hK Kx
          refine takeW 11 79 (.int .i64 (z + y)) rfl rfl (by kernel_rfl) (by kernel_rfl) (by kernel_rfl) (fun _ _ _ h => h) rfl (fun wx hSw => by obtain ⟨hs1, hs2⟩ := hSw; go_simp) (by assumption) ?_
          simp only [Act.put, List.setIfInBounds_toArray, List.set_cons_succ, List.set_cons_zero]
          refine wpAnyH_ready (rs := [12]) (by kernel_rfl) (by simp) ?_
          refine AllReadyH.cons rfl (fun Kx hK => ?_) AllReadyH.nil
          go_simp
          refine (unhide HCap _).mono ?_
          rintro e Wx ⟨rfl, hWx⟩
          subst hWx
          refine hK.out _ _ (by assumption) (fun hHeld4 => ?_)
          clear hK Kx
          refine wpAnyH_ready (rs := [13]) (by kernel_rfl) (by simp) ?_
          refine AllReadyH.cons rfl (fun Kx hK => ?_) AllReadyH.nil
          go_simp
          refine hK.out _ _ ⟨(World.cell?_alloc_some Wb _ _ (by rw [n5]; rfl)).trans n5, (World.cell?_alloc_some Wb _ _ (by rw [n6]; rfl)).trans n6⟩ (fun hHeld5 => ?_)
          clear hK Kx
          refine wpAnyH_ready (rs := [14]) (by kernel_rfl) (by simp) ?_
          refine AllReadyH.cons rfl (fun Kx hK => ?_) AllReadyH.nil
          refine step_append_lies _ rfl (.tmp 68) (.tmp 81) 62 rfl (w.heap.size + 2) 3 ii _ 1 8 Tryd.underlying62 hi hz0 hz1 hz2 rfl (by decide) (.slice (some ⟨g', 0, none⟩) k cap') k (vInts (sizTo ts ps k)) rfl (by have := ((unhide HOb).of (Below.refl _ _).drew).of (bA (Below.refl _ _) (.cells #[.int .i64 (z2)] 3)); unfold OwnI at this; rw [sizTo_length] at this; exact this) ⟨Wb.drew.heap.size, 0, none⟩ 1 1 [.int .i64 (z2)] rfl rfl (World.news_of_block (cs := #[.int .i64 (z2)]) (MapKept.heap_alloc Wb.drew _).1) (by intro u hu; simp at hu; subst hu; rfl) (by decide) (by unfold maxLen; omega) (by omega) (by simp; omega) _ rfl ?_
          intro g2 cap2 w2 hown2 hgrow hat2 hlt2
          have hcell : ∀ o, w2.cell? ⟨bx, o, none⟩ = Wb.cell? ⟨bx, o, none⟩ := fun o => (hgrow.cell_far ⟨bx, o, none⟩ (by simp; omega) (by simp [Value.ownBlock]; omega)).trans (World.cell?_alloc_lt _ _ _ (show bx < Wb.drew.heap.size from hsb))
          have HO2 : Hid (OwnI w2 (w.heap.size + 2) g2 cap2 (sizTo ts ps (k + 1))) := by
            show OwnI _ _ _ _ _
            rw [sizTo_succ, unhide HSz]
            exact OwnI.push (sizTo_length ts ps k) hown2
          have hbx : Below (w.heap.size + 2) Wb.drew w2 := ((Below.refl (w.heap.size + 2) Wb.drew).alloc (by omega) (.cells #[.int .i64 (z2)] 3)).grown hgrow (by simp; omega) (fun j hj => by
            have : g' = j := by simpa [Value.ownBlock] using hj
            omega)
          have HF2 := hide (((unhide HFb).of (Below.refl _ _).drew).ofB hbx (by omega) (by omega))
          have HB2 : Hid (Below w.heap.size w w2) := (unhide HBw).drew.trans (hbx.mono (by omega))
          clear hown2 hgrow hat2 HOb HSz
          refine hK.out _ _ ⟨(hcell 5).trans n5, (hcell 6).trans n6⟩ (fun hHeld6 => ?_)
          clear hK Kx hcell
          refine takeW 15 5 (.slice (some ⟨g2, 0, none⟩) (k + 1) cap2) rfl rfl (by kernel_rfl) (by kernel_rfl) (by kernel_rfl) (fun _ _ _ h => h) rfl (fun wx hSw => by obtain ⟨hs1, hs2⟩ := hSw; go_simp) (by assumption) ?_
          simp only [Act.put, List.setIfInBounds_toArray]
          refine wpAnyH_done (by kernel_rfl) ?_ _
          go_wp2
          go_roundw
          case rel => exact ⟨k + 1, g2, cap2, by omega, by go_num, rfl, HO2.out, unhide HF2, HB2.out⟩
          case measure => simp [intOf]; omega
        · go_simp
          refine hK.out _ _ (by assumption) (fun hHeld2 => ?_)
          clear hK Kx
          refine wpAnyH_ready (rs := [5]) (by kernel_rfl) (by simp) ?_
          refine AllReadyH.cons rfl (fun Kx hK => ?_) AllReadyH.nil
          go_simp
          refine hK.out _ _ (by assumption) (fun hHeld3 => ?_)
          clear hK Kx
          refine takeW 11 79 (.int .i64 (z + y)) rfl rfl (by kernel_rfl) (by kernel_rfl) (by kernel_rfl) (fun _ _ _ h => h) rfl (fun wx hSw => by obtain ⟨hs1, hs2⟩ := hSw; go_simp) (by assumption) ?_
          simp only [Act.put, List.setIfInBounds_toArray, List.set_cons_succ, List.set_cons_zero]
          refine wpAnyH_ready (rs := [12]) (by kernel_rfl) (by simp) ?_
          refine AllReadyH.cons rfl (fun Kx hK => ?_) AllReadyH.nil
          go_simp
          refine (unhide HCap _).mono ?_
          rintro e Wx ⟨rfl, hWx⟩
          subst hWx
          refine hK.out _ _ (by assumption) (fun hHeld4 => ?_)
          clear hK Kx
          refine wpAnyH_ready (rs := [13]) (by kernel_rfl) (by simp) ?_
          refine AllReadyH.cons rfl (fun Kx hK => ?_) AllReadyH.nil
          go_simp
          refine hK.out _ _ ⟨(World.cell?_alloc_some Wb _ _ (by rw [n5]; rfl)).trans n5, (World.cell?_alloc_some Wb _ _ (by rw [n6]; rfl)).trans n6⟩ (fun hHeld5 => ?_)
          clear hK Kx
          refine wpAnyH_ready (rs := [14]) (by kernel_rfl) (by simp) ?_
          refine AllReadyH.cons rfl (fun Kx hK => ?_) AllReadyH.nil
          refine step_append_lies _ rfl (.tmp 68) (.tmp 81) 62 rfl (w.heap.size + 2) 3 ii _ 1 8 Tryd.underlying62 hi hz0 hz1 hz2 rfl (by decide) (.slice (some ⟨g', 0, none⟩) k cap') k (vInts (sizTo ts ps k)) rfl (by have := ((unhide HOb).of (Below.refl _ _).drew).of (bA (Below.refl _ _) (.cells #[.int .i64 (z2)] 3)); unfold OwnI at this; rw [sizTo_length] at this; exact this) ⟨Wb.drew.heap.size, 0, none⟩ 1 1 [.int .i64 (z2)] rfl rfl (World.news_of_block (cs := #[.int .i64 (z2)]) (MapKept.heap_alloc Wb.drew _).1) (by intro u hu; simp at hu; subst hu; rfl) (by decide) (by unfold maxLen; omega) (by omega) (by simp; omega) _ rfl ?_
          intro g2 cap2 w2 hown2 hgrow hat2 hlt2
          have hcell : ∀ o, w2.cell? ⟨bx, o, none⟩ = Wb.cell? ⟨bx, o, none⟩ := fun o => (hgrow.cell_far ⟨bx, o, none⟩ (by simp; omega) (by simp [Value.ownBlock]; omega)).trans (World.cell?_alloc_lt _ _ _ (show bx < Wb.drew.heap.size from hsb))
          have HO2 : Hid (OwnI w2 (w.heap.size + 2) g2 cap2 (sizTo ts ps (k + 1))) := by
            show OwnI _ _ _ _ _
            rw [sizTo_succ, unhide HSz]
            exact OwnI.push (sizTo_length ts ps k) hown2
          have hbx : Below (w.heap.size + 2) Wb.drew w2 := ((Below.refl (w.heap.size + 2) Wb.drew).alloc (by omega) (.cells #[.int .i64 (z2)] 3)).grown hgrow (by simp; omega) (fun j hj => by
            have : g' = j := by simpa [Value.ownBlock] using hj
            omega)
          have HF2 := hide (((unhide HFb).of (Below.refl _ _).drew).ofB hbx (by omega) (by omega))
          have HB2 : Hid (Below w.heap.size w w2) := (unhide HBw).drew.trans (hbx.mono (by omega))
          clear hown2 hgrow hat2 HOb HSz
          refine hK.out _ _ ⟨(hcell 5).trans n5, (hcell 6).trans n6⟩ (fun hHeld6 => ?_)
          clear hK Kx hcell
          refine takeW 15 5 (.slice (some ⟨g2, 0, none⟩) (k + 1) cap2) rfl rfl (by kernel_rfl) (by kernel_rfl) (by kernel_rfl) (fun _ _ _ h => h) rfl (fun wx hSw => by obtain ⟨hs1, hs2⟩ := hSw; go_simp) (by assumption) ?_
          simp only [Act.put, List.setIfInBounds_toArray]
          refine wpAnyH_done (by kernel_rfl) ?_ _
          go_wp2
          go_roundw
          case rel => exact ⟨k + 1, g2, cap2, by omega, by go_num, rfl, HO2.out, unhide HF2, HB2.out⟩
          case measure => simp [intOf]; omega
    · obtain rfl : k = ps.length := by omega
      have HO2 : Hid (OwnI wr w.heap.size g' cap' (sizTo ts ps ps.length)) := by
        obtain ⟨h1, h2⟩ := hO
        refine ⟨h1, ?_⟩
        rcases h2 with h2 | ⟨g1, c1, cur, h3, h4, h5⟩
        · exact Or.inl h2
        · exact Or.inr ⟨g1, c1, cur, h3, by omega, h5⟩
      obtain ⟨fp, fd, fs⟩ := id F
      have fs0 : w.heap.size < wr.heap.size := by omega
      clear hO
      go_wp2
      go_ret
      exact ⟨g', cap', rfl, HO2.out, hb⟩
end Go.Proofs.YtkdeilhkobcglaaDoor
