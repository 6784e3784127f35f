import Derived.Test.YteebidljiemegaaDoorDbMk
import Derived.Test.YteebidljiemegaaDoorTakes2
namespace Go.Proofs.YteebidljiemegaaDoor
open Go Go.RowKit
set_option maxRecDepth 100000 in
set_option maxHeartbeats 4000000 in
theorem markTableS_K (ts : List Tb) (a : Option Addr) (lab : Lt) (B cap k : Nat) (cs : List Value) (w : World) (h : TabG w lab B (.slice a ts.length cap) cs ts) (b1 : ts.length ≤ 1048576) (b2 : ∀ t ∈ ts, t.Rows.length ≤ 1048576 ∧ bulk t.Rows ≤ 1048576) (hk1 : 1 ≤ k) (bk : k + kTs ts ≤ 268435456) :
    Calls Tryd.prog 20 #[.slice a ts.length cap, .int .i64 k] w fun e w' => e = .returned (.int .i64 ((k + kTs ts : Nat) : Int)) ∧ (∃ us rss, MkAll w' lab a k ts us rss) ∧ ButM (fun b => (Value.slice a ts.length cap).ownBlock = some b ∨ (lab b).1 ≤ 1) w w' := by
  by_cases hz : ts = []
  · subst hz
    clear h b2
    have hkz : Hid (k + kTs [] = k) := by show _ = _; simp [kTs]
    go_enter Tryd.func20, Tryd.ntmps20
    go_wp2
    go_loopw [1, 5] (fun q p wr => p = .int .i64 0 ∧ q = .int .i64 (k : Int) ∧ wr = w) (fun _ _ _ => 0)
    case atStart => exact ⟨rfl, rfl, rfl⟩
    case round =>
      obtain ⟨rfl, rfl, rfl⟩ := hrel
      go_wp2
      go_ret
      exact ⟨by rw [unhide hkz]; rfl, ⟨fun _ => .bool true, fun _ => [], fun j hj => by simp at hj⟩, ButM.refl _ _⟩
  have hgv : ∃ g, a = some ⟨g, 0, none⟩ := by
    rcases h.own.2 with ⟨h1, h2⟩ | ⟨g, cap', cur, h1, _⟩
    · exact absurd (List.length_eq_zero_iff.1 h2) hz
    · simp at h1
      exact ⟨g, h1.1⟩
  obtain ⟨g, rfl⟩ := hgv
  have hgb := h.blk g rfl
  obtain ⟨us, rss, hU⟩ := h.unmarked
  have hG := hgb.2.1
  have hgl := hgb.2.2
  have HU : Hid (∀ (j : Nat) (hj : j < ts.length), UnT w lab g j (us j) (rss j)) := fun j hj => (hU j hj).1
  have HM0 : Hid (∀ (j : Nat) (hj : j < ts.length), (rss j).map kR = (ts[j]).Rows) := fun j hj => (hU j hj).2
  have HB2 := hide b2
  have HFz : Hid (∀ o, w.frozen? ⟨g, o, none⟩ = false) := fun o => h.own.frozenAt o
  have HAll : Hid (∀ o, o < ts.length * 3 → ∃ v, w.cell? ⟨g, o, none⟩ = some v) := fun o ho => by
    have h1 := h.own.1
    exact ⟨cs[o]'(by omega), by rw [h.own.cellAt o ho, List.getElem?_eq_getElem]⟩
  have HSl : Hid ((Value.slice (some ⟨g, 0, none⟩) ts.length cap).ownBlock = some g) := rfl
  clear h b2 hU hgb hz
  go_enter Tryd.func20, Tryd.ntmps20
  go_wp2
  go_loopw [1, 5] (fun c s wr => ∃ i : Nat, i ≤ ts.length ∧ s = .int .i64 i ∧ c = .int .i64 ((k + kTs (ts.take i) : Nat) : Int) ∧ (∀ (j : Nat) (hj : j < ts.length), j < i → MkT wr lab g j (us j) (rss j) (k + kTs (ts.take j))) ∧ (∀ (j : Nat) (hj : j < ts.length), i ≤ j → UnT wr lab g j (us j) (rss j)) ∧ (∀ o, o < ts.length * 3 → ∃ v, wr.cell? ⟨g, o, none⟩ = some v) ∧ ButM (fun b => b = g ∨ (lab b).1 ≤ 1) w wr) (fun _ s _ => ts.length - (intOf s).toNat)
  case atStart => exact ⟨0, Nat.zero_le _, rfl, by simp [kTs], fun j _ hj => by omega, fun j hj _ => unhide HU j hj, unhide HAll, ButM.refl _ _⟩
  case round =>
    obtain ⟨i, hi, rfl, rfl, hD, hM, hA, hB⟩ := hrel
    by_cases hlt : i < ts.length
    · have j1 : (i : Int) < (ts.length : Int) := by omega
      have hrow := hM i hlt (Nat.le_refl _)
      obtain ⟨x1, x2⟩ := unhide HB2 _ (List.getElem_mem hlt)
      have hk1' := kTs_take ts i hlt
      have hk2 := kTs_take_le ts (i + 1)
      have hm := unhide HM0 i hlt
      have hbulk : bulk ((rss i).map kR) = bulk (ts[i]).Rows := by rw [hm]
      have hrsl : (rss i).length = (ts[i]).Rows.length := by rw [← hm]; simp
      obtain ⟨j, hj⟩ : ∃ j, j = k + kTs (ts.take i) := ⟨_, rfl⟩
      rw [← hj]
      have HJ := hide hj
      have hj1 : 1 ≤ j := by omega
      have HK1 : Hid (k + kTs (ts.take (i + 1)) = j + 2 + 2 * bulk ((rss i).map kR)) := by show _ = _; rw [hbulk]; omega
      have hjb : j + 2 + 2 * bulk ((rss i).map kR) ≤ 268435456 := by rw [hbulk]; omega
      have q1 : g < wr.heap.size := Nat.lt_of_lt_of_le hG hB.size
      have hf : ∀ o, wr.frozen? ⟨g, o, none⟩ = false := fun o => (hB.frz g o hG).trans (unhide HFz o)
      have HDn := hide hD; have HM := hide hM; have HA := hide hA; have HB := hide hB; have HRw := hide hrow
      have HMT := hide (markText_fun j wr hj1 (by omega))
      have hrl : (rss i).length ≤ 1048576 := by omega
      have hrr : ∀ r ∈ rss i, r.2.2.length ≤ 1048576 := fun r hr => by
        have hmem : r.2.2 ∈ (ts[i]).Rows := by rw [← hm]; exact List.mem_map.2 ⟨r, hr, rfl⟩
        have := bulk_mem hmem
        omega
      have HRR := hide hrr
      have HRB := hide hjb
      clear hD hM hA hB hrow hj hk1' hk2 hm hbulk hrsl hrr x1 x2
      generalize hms : mtx j = s at *
      have HMs := hide hms
      clear hms
      go_wp2_with fail
      refine (unhide HMT).mono ?_; rintro e wa ⟨rfl, hba⟩
      have qa : g < wa.heap.size := Nat.lt_of_lt_of_le q1 hba.size
      have hfa : ∀ o, wa.frozen? ⟨g, o, none⟩ = false := fun o => (hba.frozen (p := ⟨g, o, none⟩) q1).trans (hf o)
      obtain ⟨u0, hu0⟩ := unhide HA (i * 3) (by omega)
      obtain ⟨u1, hu1⟩ := unhide HA (i * 3 + 1) (by omega)
      have d0 := (hba.cell (p := ⟨g, i * 3, none⟩) q1).trans hu0
      have d1 := (hba.cell (p := ⟨g, i * 3 + 1, none⟩) q1).trans hu1
      obtain ⟨wb0, hwb0⟩ : ∃ wb0, wb0 = ((wa.setCell ⟨g, i * 3, none⟩ (.string s)).setCell ⟨g, i * 3 + 1, none⟩ (.int .i64 ((j : Int) + 1))) := ⟨_, rfl⟩
      have hBt : ButM (fun x => x = g) wa wb0 := by rw [hwb0]; exact (ButM.set (S := fun x => x = g) (ButM.refl _ _) rfl _).set rfl _
      have hco : ∀ jj o, jj ≠ i → o < 3 → wb0.cell? ⟨g, jj * 3 + o, none⟩ = wa.cell? ⟨g, jj * 3 + o, none⟩ := fun jj o hne ho => by
        rw [hwb0, setCell_other (by omega), setCell_other (by omega)]
      have hcu2 : wb0.cell? ⟨g, i * 3 + 2, none⟩ = wa.cell? ⟨g, i * 3 + 2, none⟩ := by rw [hwb0, setCell_other (by omega), setCell_other (by omega)]
      have nS : ∀ b, (lab b).1 ≤ 1 → ¬ b = g := fun b e e' => hgl (by rw [← e']; exact e)
      have hrb : UnT wb0 lab g i (us i) (rss i) := ((unhide HRw).of q1 hba).but hcu2 hBt (fun b e _ => nS b e)
      have hMb : ∀ (jj : Nat) (hjj : jj < ts.length), i + 1 ≤ jj → UnT wb0 lab g jj (us jj) (rss jj) := fun jj hjj hge =>
        ((unhide HM jj hjj (by omega)).of q1 hba).but (hco jj 2 (by omega) (by omega)) hBt (fun b e _ => nS b e)
      have hDb : ∀ (jj : Nat) (hjj : jj < ts.length), jj < i → MkT wb0 lab g jj (us jj) (rss jj) (k + kTs (ts.take jj)) := fun jj hjj hle =>
        ((unhide HDn jj hjj hle).of q1 hba).but (fun o ho => hco jj o (by omega) ho) hBt (fun b e _ => nS b e)
      have hAb : ∀ o, o < ts.length * 3 → ∃ v, wb0.cell? ⟨g, o, none⟩ = some v := fun o ho => by
        obtain ⟨v, hv⟩ := unhide HA o ho
        obtain ⟨v, hv⟩ := setCell_there (o' := i * 3) (v := .string s) ((hba.cell (p := ⟨g, o, none⟩) q1).trans hv)
        rw [hwb0]
        exact setCell_there hv
      have hBb : ButM (fun b => b = g ∨ (lab b).1 ≤ 1) w wb0 := ((unhide HB).trans (ButM.ofBelow hba)).trans (hBt.mono (fun b e => Or.inl e))
      have qb : g < wb0.heap.size := by rw [hwb0]; simpa using qa
      have m0 : wb0.cell? ⟨g, i * 3, none⟩ = some (.string s) := by rw [hwb0, setCell_other (by omega)]; exact World.cell?_setCell_same _ _ _ d0
      have m1 : wb0.cell? ⟨g, i * 3 + 1, none⟩ = some (.int .i64 ((j : Int) + 1)) := by rw [hwb0]; exact World.cell?_setCell_same _ _ _ (by rw [setCell_other (by omega)]; exact d1)
      have HMb := hide hMb; have HDb := hide hDb; have HAb := hide hAb; have HBb := hide hBb; have HRb := hide hrb
      clear hMb hDb hAb hBb hrb hBt hba HM HDn HA HB HRw HMT hf hu0 hu1 hco hcu2
      go_upto_region 8 with fail
      rw [← hwb0]
      clear hwb0 d0 d1 hfa qa
      have c2 := (unhide HRb).cu
      have HMV : Hid (∀ kz : Int, kz = ((j + 2 : Nat) : Int) → Calls Tryd.prog 38 #[us i, .int .i64 kz] wb0 fun e w' => e = .returned (.int .i64 ((j + 2 + 2 * bulk ((rss i).map kR) : Nat) : Int)) ∧ Marked w' (j + 2) (rss i) (rss i).length ∧ ButM (fun b => ∃ jj, lab b = (1, i, jj)) wb0 w') := fun kz hkz => by
        subst hkz
        exact markRowsK (rss i) (us i) lab i (j + 2) wb0 (unhide HRb).grid (unhide HRb).rows (unhide HRb).labs hrl (by have := unhide HRB; omega) (unhide HRR)
      generalize hbr : bulk ((rss i).map kR) = br at *
      clear hbr
      obtain ⟨va, vn, vc, hvi⟩ : ∃ va vn vc, us i = .slice va vn vc := by
        rcases (unhide HRb).grid with ⟨c, e, _⟩ | ⟨G, c, e, _⟩
        · exact ⟨_, _, _, e⟩
        · exact ⟨_, _, _, e⟩
      rw [hvi] at c2 HMV
      go_wp2_with fail
      refine (unhide HMV _ (by push_cast; omega)).mono ?_; rintro e wc ⟨rfl, hmk, hBc⟩
      have hgc : ¬ ∃ jj, lab g = (1, i, jj) := fun ⟨jj, h⟩ => hgl (by rw [h]; simp)
      have hnc : ∀ jj b, jj ≠ i → (lab b).1 ≤ 1 → (lab b).2.1 = jj → ¬ ∃ j2, lab b = (1, i, j2) := fun jj b hne _ e ⟨j2, h⟩ => hne (by rw [h] at e; exact e.symm)
      have HD2 : Hid (∀ (jj : Nat) (hjj : jj < ts.length), jj < i + 1 → MkT wc lab g jj (us jj) (rss jj) (k + kTs (ts.take jj))) := fun jj hjj hle => by
        by_cases e : jj = i
        · subst e
          rw [← unhide HJ]
          refine ⟨by rw [unhide HMs]; exact (hBc.cell g _ qb hgc).trans m0, (hBc.cell g _ qb hgc).trans m1, (hBc.cell g _ qb hgc).trans (unhide HRb).cu, (unhide HRb).grid.but hBc (fun b e ⟨j2, h⟩ => by rw [e] at h; simp at h), hmk, (unhide HRb).labs⟩
        · exact (unhide HDb jj hjj (by omega)).but (fun o _ => hBc.cell g _ qb hgc) hBc (fun b e1 e2 => hnc jj b e e1 e2)
      have HM2 : Hid (∀ (jj : Nat) (hjj : jj < ts.length), i + 1 ≤ jj → UnT wc lab g jj (us jj) (rss jj)) := fun jj hjj hge =>
        (unhide HMb jj hjj hge).but (hBc.cell g _ qb hgc) hBc (fun b e1 e2 => hnc jj b (by omega) e1 e2)
      have HA2 : Hid (∀ o, o < ts.length * 3 → ∃ v, wc.cell? ⟨g, o, none⟩ = some v) := fun o ho => by
        rw [hBc.cell g o qb hgc]
        exact unhide HAb o ho
      have HB3 : Hid (ButM (fun b => b = g ∨ (lab b).1 ≤ 1) w wc) := (unhide HBb).trans (hBc.mono (fun b ⟨jj, h⟩ => Or.inr (by rw [h]; simp)))
      clear hBc hmk HMb HDb HAb HBb HMV HRb c2 hvi hnc
      go_wp2
      go_roundw
      case rel => exact ⟨i + 1, by omega, by go_num, by rw [unhide HK1]; go_num, unhide HD2, unhide HM2, unhide HA2, unhide HB3⟩
      case measure => simp [intOf]; omega
    · obtain rfl : i = ts.length := by omega
      rw [List.take_length]
      have HAl : Hid (MkAll wr lab (some ⟨g, 0, none⟩) k ts us rss) := fun j hj => ⟨g, rfl, Nat.lt_of_lt_of_le hG hB.size, hgl, hD j hj hj, unhide HM0 j hj⟩
      have HBf : Hid (ButM (fun b => (Value.slice (some ⟨g, 0, none⟩) ts.length cap).ownBlock = some b ∨ (lab b).1 ≤ 1) w wr) := hB.mono (fun b e => e.imp (fun e => by rw [e]; rfl) id)
      clear hM hA hD hB
      go_wp2
      go_ret
      exact ⟨rfl, ⟨us, rss, unhide HAl⟩, unhide HBf⟩
theorem markDb_K (ts : List Tb) (a : Option Addr) (lab : Lt) (B cap k : Nat) (cs : List Value) (w : World) (h : TabG w lab B (.slice a ts.length cap) cs ts) (b1 : ts.length ≤ 1048576) (b2 : ∀ t ∈ ts, t.Rows.length ≤ 1048576 ∧ bulk t.Rows ≤ 1048576) (hk1 : 1 ≤ k) (bk : k + kTs ts ≤ 268435456) :
    Calls Tryd.prog 7 #[.agg #[.slice a ts.length cap], .int .i64 k] w fun e w' => e = .returned (.int .i64 ((k + kTs ts : Nat) : Int)) ∧ (∃ us rss, MkAll w' lab a k ts us rss) ∧ ButM (fun b => (Value.slice a ts.length cap).ownBlock = some b ∨ (lab b).1 ≤ 1) w w' := by
  have HM := hide (fun W (hb : Below w.heap.size w W) => markTableS_K ts a lab B cap k cs W (h.of hb) b1 b2 hk1 bk)
  clear h b2
  go_enter Tryd.func7, Tryd.ntmps7
  go_wp2_with fail
  refine (unhide HM _ (bA (Below.refl _ _) _)).mono ?_; rintro e w1 ⟨rfl, hA, hB⟩
  have HA := hide hA
  have HB := hide ((ButM.ofBelow (S := fun b => (Value.slice a ts.length cap).ownBlock = some b ∨ (lab b).1 ≤ 1) (bA (Below.refl w.heap.size w) (.cells #[.slice a ts.length cap] 24))).trans hB)
  clear hB HM hA
  go_wp2
  go_ret
  exact ⟨rfl, unhide HA, unhide HB⟩
set_option maxRecDepth 100000 in
set_option maxHeartbeats 4000000 in
theorem heldTableS_K (ts : List Tb) (a : Option Addr) (lab : Lt) (cap k : Nat) (us : Nat → Value) (rss : Nat → List R3) (w : World) (h : MkAll w lab a k ts us rss) (b1 : ts.length ≤ 1048576) (b2 : ∀ t ∈ ts, t.Rows.length ≤ 1048576 ∧ bulk t.Rows ≤ 1048576) (hk1 : 1 ≤ k) (bk : k + kTs ts ≤ 268435456) :
    Calls Tryd.prog 21 #[.slice a ts.length cap, .int .i64 k] w fun e w' => e = .returned (.int .i64 ((k + kTs ts : Nat) : Int)) ∧ Below w.heap.size w w' := by
  have HA := hide h; have HB2 := hide b2
  clear h b2
  go_enter Tryd.func21, Tryd.ntmps21
  go_wp2
  go_loopw [1, 5] (fun c s wr => ∃ i : Nat, i ≤ ts.length ∧ s = .int .i64 i ∧ c = .int .i64 ((k + kTs (ts.take i) : Nat) : Int) ∧ Below w.heap.size w wr) (fun _ s _ => ts.length - (intOf s).toNat)
  case atStart => exact ⟨0, Nat.zero_le _, rfl, by simp [kTs], Below.refl _ _⟩
  case round =>
    obtain ⟨i, hi, rfl, rfl, hb⟩ := hrel
    by_cases hlt : i < ts.length
    · have j1 : (i : Int) < (ts.length : Int) := by omega
      obtain ⟨g, rfl, q1, _, hMk, hm⟩ := ((unhide HA).of hb) i hlt
      obtain ⟨x1, x2⟩ := unhide HB2 _ (List.getElem_mem hlt)
      have hk1' := kTs_take ts i hlt
      have hk2 := kTs_take_le ts (i + 1)
      have hbulk : bulk ((rss i).map kR) = bulk (ts[i]).Rows := by rw [hm]
      have hrsl : (rss i).length = (ts[i]).Rows.length := by rw [← hm]; simp
      obtain ⟨j, hj⟩ : ∃ j, j = k + kTs (ts.take i) := ⟨_, rfl⟩
      rw [← hj] at hMk ⊢
      have hj1 : 1 ≤ j := by omega
      have HK1 : Hid (k + kTs (ts.take (i + 1)) = j + 2 + 2 * bulk ((rss i).map kR)) := by show _ = _; rw [hbulk]; omega
      have hjb : j + 2 + 2 * bulk ((rss i).map kR) ≤ 268435456 := by rw [hbulk]; omega
      have c0 := hMk.c0
      have c1 := hMk.c1
      have HMT := hide (fun W => markText_fun j W hj1 (by omega))
      have hrl : (rss i).length ≤ 1048576 := by omega
      have hrr : ∀ r ∈ rss i, r.2.2.length ≤ 1048576 := fun r hr => by
        have hmem : r.2.2 ∈ (ts[i]).Rows := by rw [← hm]; exact List.mem_map.2 ⟨r, hr, rfl⟩
        have := bulk_mem hmem
        omega
      obtain ⟨va, vn, vc, hvi⟩ : ∃ va vn vc, us i = .slice va vn vc := by
        rcases hMk.grid with ⟨c, e, _⟩ | ⟨G, c, e, _⟩
        · exact ⟨_, _, _, e⟩
        · exact ⟨_, _, _, e⟩
      have c2 := hMk.cu
      rw [hvi] at c2
      have HMk := hide hMk
      have HHV : Hid (∀ W, Below wr.heap.size wr W → ∀ kz : Int, kz = ((j + 2 : Nat) : Int) → Calls Tryd.prog 39 #[.slice va vn vc, .int .i64 kz] W fun e w' => e = .returned (.int .i64 ((j + 2 + 2 * bulk ((rss i).map kR) : Nat) : Int)) ∧ Below W.heap.size W w') := fun W hbW kz hkz => by
        subst hkz
        rw [← hvi]
        have hM' := (unhide HMk).of q1 hbW
        exact heldRowsK (rss i) (us i) lab i (j + 2) W hM'.grid hM'.mkd hrl (by omega) hrr
      have HB := hide hb
      have es : ((mtx j).toList == (mtx j).toList) = true := by simp
      have es' : ((mtx j).toList != (mtx j).toList) = false := by simp
      have ei : (((j : Int) + 1) != ((j : Int) + 1)) = false := by simp
      clear hMk hb hj hk1' hk2 hm hbulk hrsl hrr x1 x2 hvi
      generalize mtx j = s at *
      generalize hbr : bulk ((rss i).map kR) = br at *
      clear hbr
      go_upto_region 4 with fail
      refine wp_region_held_drew (S := Std wr) (by kernel_rfl) (Std.drew (Std.refl _)) (fun hHeld => ?_)
      refine tW 0 12 (.slice (some ⟨g, 0, none⟩) ts.length cap) ?_
      simp only [puts]
      refine tW 1 13 (.int .i64 (i : Int)) ?_
      simp only [puts]
      refine tW 2 14 (.pointer (some ⟨g, i * 3, none⟩)) ?_
      simp only [puts]
      refine tW 3 15 (.pointer (some ⟨g, i * 3, none⟩)) ?_
      simp only [puts]
      refine tW 4 16 (.string s) ?_
      simp only [puts]
      refine tW 5 17 (.int .i64 (j : Int)) ?_
      simp only [puts]
      refine wpAnyH_ready (rs := [6]) (by kernel_rfl) (by simp) ?_
      refine AllReadyH.cons rfl (fun Kx hK => ?_) AllReadyH.nil
      go_simp
      refine (unhide HMT _).mono ?_
      rintro e wa ⟨rfl, hb2⟩
      have hSa : Std wr wa := Std.call (by assumption) hb2
      refine hK.out _ _ hSa (fun hHeld2 => ?_)
      clear hK Kx hb2
      refine tW 7 19 (.bool false) ?_
      simp only [puts]
      refine wpAnyH_done (by kernel_rfl) ?_ _
      have hba : Below wr.heap.size wr wa := hSa.2.2
      have qa : g < wa.heap.size := Nat.lt_of_lt_of_le q1 hba.size
      have d0 := (hba.cell (p := ⟨g, i * 3, none⟩) q1).trans c0
      have d1 := (hba.cell (p := ⟨g, i * 3 + 1, none⟩) q1).trans c1
      have d2 := (hba.cell (p := ⟨g, i * 3 + 2, none⟩) q1).trans c2
      have HHV2 : Hid (∀ kz : Int, kz = ((j + 2 : Nat) : Int) → Calls Tryd.prog 39 #[.slice va vn vc, .int .i64 kz] wa fun e w' => e = .returned (.int .i64 ((j + 2 + 2 * br : Nat) : Int)) ∧ Below wa.heap.size wa w') := fun kz hkz => unhide HHV wa hba kz hkz
      have HBa := hide (bT (unhide HB) hba)
      have jn : ¬ (((j + 2 + 2 * br : Nat) : Int) < 0) := by omega
      clear hba HHV HMk HB c0 c1 c2 HMT hSa hHeld hHeld2
      go_wp2_with fail
      refine (unhide HHV2 _ (by push_cast; omega)).mono ?_; rintro e wc ⟨rfl, hbc⟩
      have HBc := hide (bT (unhide HBa) hbc)
      clear hbc HHV2
      go_wp2
      go_roundw
      case rel => exact ⟨i + 1, by omega, by go_num, by rw [unhide HK1]; go_num, unhide HBc⟩
      case measure => simp [intOf]; omega
    · obtain rfl : i = ts.length := by omega
      rw [List.take_length]
      go_wp2
      go_ret
      exact ⟨rfl, hb⟩
theorem heldDb_K (ts : List Tb) (a : Option Addr) (lab : Lt) (cap k : Nat) (us : Nat → Value) (rss : Nat → List R3) (w : World) (h : MkAll w lab a k ts us rss) (b1 : ts.length ≤ 1048576) (b2 : ∀ t ∈ ts, t.Rows.length ≤ 1048576 ∧ bulk t.Rows ≤ 1048576) (hk1 : 1 ≤ k) (bk : k + kTs ts ≤ 268435456) :
    Calls Tryd.prog 8 #[.agg #[.slice a ts.length cap], .int .i64 k] w fun e w' => e = .returned (.int .i64 ((k + kTs ts : Nat) : Int)) ∧ Below w.heap.size w w' := by
  have HM := hide (fun W (hb : Below w.heap.size w W) => heldTableS_K ts a lab cap k us rss W (h.of hb) b1 b2 hk1 bk)
  have jn : ¬ (((k + kTs ts : Nat) : Int) < 0) := by omega
  clear h b2
  generalize k + kTs ts = kk at *
  go_enter Tryd.func8, Tryd.ntmps8
  go_wp2_with fail
  refine (unhide HM _ (bA (Below.refl _ _) _)).mono ?_; rintro e w1 ⟨rfl, hB⟩
  have HB := hide (bT (bA (Below.refl w.heap.size w) (.cells #[.slice a ts.length cap] 24)) hB)
  clear hB HM
  go_wp2
  go_ret
  exact ⟨rfl, unhide HB⟩
end Go.Proofs.YteebidljiemegaaDoor
