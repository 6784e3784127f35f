import Derived.Test.YtbbjhepagkkjeaaGreatDoorDwSpA
import Derived.Test.YtbbjhepagkkjeaaGreatDoorQ17
namespace Go.Proofs.YtbbjhepagkkjeaaGreatDoor
open Go Go.RowKit
set_option maxRecDepth 100000 in
set_option maxHeartbeats 16000000 in
theorem l3SpoilDb_DwSpo5 (w : World) (R : Nat) (a : Option Addr) (cap : Nat) (bs : List Nat) (p : Nat) (h : Rd w R a cap bs p) (lab : Lq) (B : Nat) (v : Value) (d : List Td) (hD : DbS w lab B v d) (hRB : R < B) (hBw : B ≤ w.heap.size) (hd3 : d.length = 3) (hpos : ∀ t ∈ d, 0 ≤ t.co ∧ t.co ≤ 3 ∧ t.rs.length ≤ 1000) (hy9 : (nxt bs p : Int) % 8 = 5) :
    Calls Tryz.prog 36 #[.pointer (some ⟨R, 0, none⟩), .agg #[v]] w (SpE w R B) := by
  have HY := hide hy9
  clear hy9
  obtain ⟨va, vc, rfl⟩ := hD.form
  rw [hd3] at hD ⊢
  have hR := h.size
  have hBb : Below w.heap.size w ((w.alloc (.cells #[.slice va 3 vc] 26)).alloc (.cells #[.slice none 0 0] 26)) := bA (bA (Below.refl _ _) _) _
  have N1 := hide (next_calls _ R a cap bs p (h.of hBb))
  have hk := nxt_le h p
  have HD := hide (hD.of hBb); have HBb := hide hBb
  have hl0 : (lab w.heap.size).1 = 0 := by
    apply Classical.byContradiction
    intro e
    have := (hD.rng _ e).2.1
    omega
  have HVw : Hid (∀ g, (Value.slice va 3 vc).ownBlock = some g → g < w.heap.size) := fun g e => (hD.own.lt g e).2
  have hl1 : (lab (w.heap.size + 1)).1 = 0 := by
    apply Classical.byContradiction
    intro e
    have := (hD.rng _ e).2.1
    omega
  clear h hBb hD
  go_enter Tryz.func36, Tryz.ntmps36
  go_wp2_with fail
  refine (unhide N1).mono ?_; rintro e w1 ⟨rfl, hr1, hd1⟩
  have N2 := hide (fun W hW => next_calls W R a cap bs (adv bs p) hW)
  have q0 : w1.cell? ⟨w.heap.size, 0, none⟩ = some (.slice va 3 vc) := (hd1.cell 0 (by simp; omega) (by omega)).trans (by simp [go_sem])
  have q1 : w1.cell? ⟨w.heap.size + 1, 0, none⟩ = some (.slice none 0 0) := (hd1.cell 0 (by simp) (by omega)).trans (by simp [go_sem])
  have q2 : ∀ o, w1.frozen? ⟨w.heap.size + 1, o, none⟩ = false := fun o => (hd1.frozen o (by simp) (by omega)).trans (by simp [go_sem])
  have HZ1 : Hid (∀ o, w1.frozen? ⟨w.heap.size, o, none⟩ = false) := fun o => (hd1.frozen o (by simp; omega) (by omega)).trans (by simp [go_sem])
  have qs : w.heap.size + 1 < w1.heap.size := by have := hd1.size; simp at this; omega
  have qs0 : w.heap.size < w1.heap.size := by omega
  have hk2 := nxt_le hr1 (adv bs p)
  have HN2 := hide (unhide N2 w1.drew (hr1.of (Below.refl _ _).drew))
  have HD1 := hide ((unhide HD).butB hd1.toBut (fun g e e' => by have := ((unhide HD).own.lt g e).1; omega) (fun b e e' => by have := ((unhide HD).rng b e).1; omega))
  have HL1 := hide ((unhide HBb).mono (show R ≤ w.heap.size by omega) |>.trans hd1.low)
  clear N1 N2 hr1 hd1 HD HBb
  generalize nxt bs p = K at *
  generalize nxt bs (adv bs p) = K2 at *
  generalize adv bs (adv bs p) = p2 at *
  obtain ⟨I, hI⟩ : ∃ I : Nat, (K2 : Int) % 3 = (I : Int) := ⟨K2 % 3, by omega⟩
  have hI3 : I < 3 := by omega
  have hIt : (K2 : Int).tmod 3 = (I : Int) := by rw [Int.tmod_eq_emod_of_nonneg (by omega)]; exact hI
  go_upto_region 2 with fail
  refine wp_region_held_drew (S := fun W => W.cell? ⟨w.heap.size, 0, none⟩ = some (.slice va 3 vc) ∧ W.cell? ⟨w.heap.size, 0, none⟩ = some (.slice va 3 vc)) (by kernel_rfl) ⟨q0, q0⟩ (fun hHeld => ?_)
  refine tW 0 12 (.pointer (some ⟨R, 0, none⟩)) ?_
  simp only [puts]
  refine tW 2 14 (.pointer (some ⟨w.heap.size, 0, none⟩)) ?_
  simp only [puts]
  refine tW 3 15 (.slice va 3 vc) ?_
  simp only [puts]
  refine tW 4 16 (.int .i64 3) ?_
  simp only [puts]
  refine wpAnyH_ready (rs := [1]) (by kernel_rfl) (by simp) ?_
  refine AllReadyH.cons rfl (fun Kx hK => ?_) AllReadyH.nil
  go_simp
  refine (unhide HN2).mono ?_
  rintro e w2 ⟨rfl, hr2, hd2⟩
  have q0' : w2.cell? ⟨w.heap.size, 0, none⟩ = some (.slice va 3 vc) := (hd2.cell 0 qs0 (by omega)).trans q0
  have q1' : w2.cell? ⟨w.heap.size + 1, 0, none⟩ = some (.slice none 0 0) := (hd2.cell 0 qs (by omega)).trans q1
  have q2' : ∀ o, w2.frozen? ⟨w.heap.size + 1, o, none⟩ = false := fun o => (hd2.frozen o qs (by omega)).trans (q2 o)
  have HZ2 : Hid (∀ o, w2.frozen? ⟨w.heap.size, o, none⟩ = false) := fun o => (hd2.frozen o qs0 (by omega)).trans (unhide HZ1 o)
  have qs' : w.heap.size + 1 < w2.heap.size := Nat.lt_of_lt_of_le qs hd2.size
  have qs0' : w.heap.size < w2.heap.size := by omega
  refine hK.out _ _ ⟨q0', q0'⟩ (fun hHeld2 => ?_)
  clear hK Kx
  refine tW 5 17 (.int .i64 (I : Int)) ?_
  simp only [puts]
  refine tW 6 6 (.int .i64 (I : Int)) ?_
  simp only [puts]
  refine wpAnyH_done (by kernel_rfl) ?_ _
  have hDr := (unhide HD1).of (Below.refl w1.heap.size w1).drew
  have hD2 := hDr.butB hd2.toBut (fun g e e' => by have := (hDr.own.lt g e).1; omega) (fun b e e' => by have := (hDr.rng b e).1; omega)
  have HL2 := hide ((unhide HL1).trans ((Below.refl R w1).drew.trans hd2.low))
  obtain ⟨t, ht⟩ : ∃ t, d[I]? = some t := ⟨d[I]'(by omega), List.getElem?_eq_getElem (by omega)⟩
  obtain ⟨g, rfl, hgB, hg, hgl, c0, c1, c2⟩ := hD2.at I t ht
  have hT := hD2.tab I t ht
  obtain ⟨ua, uc, hu⟩ := hT.form
  rw [hu] at c2
  have hgw : g < w.heap.size := unhide HVw g rfl
  have hI3' : (I : Int) < 3 := by omega
  have HD2 := hide hD2; have HT2 := hide hT; have HU := hide hu; have HTi := hide ht; have HR2 := hide hr2
  have hgf := fun o => (hd3 ▸ hD2.own).frozenAt o
  clear hHeld hHeld2 hDr hD2 hT hu ht hr2 hd2 HD1 HL1 HN2 q0 q1 q2 qs qs0 hI
  have hB3 := bA (Below.refl w2.heap.size w2) (.cells #[.string (mkS t.nm), .int .i64 t.co, .slice ua t.rs.length uc] 32)
  have hD3 := (unhide HD2).of hB3
  have hT3 := (unhide HT2).butB (S := fun _ => False) (ButB.ofBelow hB3) (fun _ _ e => e)
  have e0 := (hB3.cell (p := ⟨g, I * 3, none⟩) hg).trans c0
  have e1 := (hB3.cell (p := ⟨g, I * 3 + 1, none⟩) hg).trans c1
  have e2 := (hB3.cell (p := ⟨g, I * 3 + 2, none⟩) hg).trans c2
  have ef := fun o => (hB3.frozen (p := ⟨g, o, none⟩) hg).trans (hgf o)
  have r0 := (hB3.cell (p := ⟨w.heap.size, 0, none⟩) qs0').trans q0'
  have r1 := (hB3.cell (p := ⟨w.heap.size + 1, 0, none⟩) qs').trans q1'
  have r2 := fun o => (hB3.frozen (p := ⟨w.heap.size + 1, o, none⟩) qs').trans (q2' o)
  have HZ3 := hide (fun o => (hB3.frozen (p := ⟨w.heap.size, o, none⟩) qs0').trans (unhide HZ2 o))
  obtain ⟨b0, b1, b2⟩ := (fun Q (hQ : (w2.alloc (.cells #[.string (mkS t.nm), .int .i64 t.co, .slice ua t.rs.length uc] 32)) = Q) => (by subst hQ; exact ⟨by simp [go_sem], by simp [go_sem], by simp [go_sem]⟩ : Q.cell? ⟨w2.heap.size, 0, none⟩ = some (.string (mkS t.nm)) ∧ Q.cell? ⟨w2.heap.size, 1, none⟩ = some (.int .i64 t.co) ∧ Q.cell? ⟨w2.heap.size, 2, none⟩ = some (.slice ua t.rs.length uc))) _ rfl
  have bf : ∀ o, (w2.alloc (.cells #[.string (mkS t.nm), .int .i64 t.co, .slice ua t.rs.length uc] 32)).frozen? ⟨w2.heap.size, o, none⟩ = false := fun o => by simp [go_sem]
  have z0 : w.heap.size + 1 < (w2.alloc (.cells #[.string (mkS t.nm), .int .i64 t.co, .slice ua t.rs.length uc] 32)).heap.size := by simp; omega
  have z1 : w2.heap.size < (w2.alloc (.cells #[.string (mkS t.nm), .int .i64 t.co, .slice ua t.rs.length uc] 32)).heap.size := by simp
  have z2 : g < (w2.alloc (.cells #[.string (mkS t.nm), .int .i64 t.co, .slice ua t.rs.length uc] 32)).heap.size := by simp; omega
  have z3 : w.heap.size < (w2.alloc (.cells #[.string (mkS t.nm), .int .i64 t.co, .slice ua t.rs.length uc] 32)).heap.size := by omega
  have x1 : w.heap.size + 1 < w2.heap.size := qs'
  have HD3 := hide hD3; have HT3 := hide hT3; have HR3 := hide ((unhide HR2).of hB3)
  have HL3 := hide (bT2 (unhide HL2) hB3)
  have hlb : (lab w2.heap.size).1 = 0 := by
    apply Classical.byContradiction
    intro e
    have := ((unhide HD2).rng _ e).2.1
    omega
  have hpt := hpos t (List.mem_of_getElem? (unhide HTi))
  clear hB3 hD3 hT3 HD2 HT2 HR2 HL2 hgf
  go_upto_region 4 with fail
  clear c0 c1 c2 q0' q1' q2' qs' qs0' hg hI3'
  generalize (w2.alloc (.cells #[.string (mkS t.nm), .int .i64 t.co, .slice ua t.rs.length uc] 32)) = W at *
  generalize w2.heap.size = bt at *
  obtain ⟨M, hM⟩ : ∃ M : Nat, (K : Int) / 8 = (M : Int) := ⟨K / 8, by omega⟩
  have hM2 : M ≤ 31 := by omega
  have hMw : IntKind.i64.wrap (M : Int) = (M : Int) := wrap_small _ (by omega) (by omega)
  have hI3' : (I : Int) < 3 := by omega
  have n1 : ¬ g = bt := by omega
  have n2 : ¬ bt = g := by omega
  have n3 : ¬ g = w.heap.size := by omega
  have n4 : ¬ g = w.heap.size + 1 := by omega
  have n5 : ¬ bt = w.heap.size := by omega
  have n6 : ¬ bt = w.heap.size + 1 := by omega
  have n7 : ¬ w.heap.size = g := by omega
  have n8 : ¬ w.heap.size + 1 = g := by omega
  have n9 : ¬ w.heap.size = bt := by omega
  have n10 : ¬ w.heap.size + 1 = bt := by omega
  have HF0 : Hid (SpF w W g bt I vc t t.nm t.co t.u) := ⟨e0, e1, by rw [unhide HU]; exact e2, ef, r0, r1, r2, b0, b1, by rw [unhide HU]; exact b2, bf, z2, z0, z1⟩
  have HBt : Hid (∀ b, (lab b).1 ≠ 0 → ¬ b = bt) := fun b e e' => e (by rw [e']; exact hlb)
  have hRg : R ≤ g := by omega
  have hRb : R ≤ bt := by omega
  have y := unhide HY
  obtain ⟨mm, hmm⟩ : ∃ mm : Nat, 50 + (M : Int) % 3 = (mm : Int) := ⟨50 + M % 3, by omega⟩
  have hmmt : 50 + (M : Int).tmod 3 = (mm : Int) := by rw [Int.tmod_eq_emod_of_nonneg (by omega)]; exact hmm
  have hm1 : mm ≤ 52 := by omega
  obtain ⟨nn, hnn⟩ : ∃ nn : Nat, (mm : Int) - 1 = (nn : Int) := ⟨mm - 1, by omega⟩
  have hn1 : nn ≤ 51 := by omega
  have hw1 : IntKind.i64.wrap (mm : Int) = (mm : Int) := wrap_small _ (by omega) (by omega)
  have hw2 : IntKind.i64.wrap (nn : Int) = (nn : Int) := wrap_small _ (by omega) (by omega)
  have HT0 : Hid (SpT w W R B bt I t d lab (.slice (some ⟨g, 0, none⟩) 3 vc)) := ⟨unhide HD3, unhide HTi, r0, unhide HZ3, r1, r2, b0, b1, by rw [unhide HU]; exact b2, z1, unhide HL3, hl1, hl0, hlb, by simp [Value.ownBlock]; omega, by simp [Value.ownBlock]; omega, by simp [Value.ownBlock]; omega, hRB, hBw, x1⟩
  obtain ⟨ti, hti, hz⟩ := Option.map_eq_some_iff.1 (show (Tryz.prog.info? 32).map (fun i => (i.zero, i.size, i.bytes)) = some (some (.agg #[.string ⟨#[]⟩, .int .i64 0, .slice none 0 0]), 3, 48) by kernel_rfl)
  simp only [Prod.mk.injEq] at hz
  obtain ⟨hz0, hz1, hz2⟩ := hz
  clear HF0 HBt HD3 HT3 HR3 HL3 hpt e0 e1 e2 ef r1 r2 b0 b1 b2 bf z0 z1 z2
  go_wp2
  clear y
  go_loopw [98] (fun _ wr => ∃ (k ga gc : Nat) (lab : Lq) (d : List Td), d.length = k ∧ k ≤ 51 ∧ 3 ≤ k ∧ SpT w wr R B bt I t d lab (.slice (some ⟨ga, 0, none⟩) k gc)) (fun _ wr => nn - lenAt wr ⟨w.heap.size, 0, none⟩)
  case atStart => exact ⟨3, g, vc, lab, d, hd3, by omega, by omega, unhide HT0⟩
  case round =>
    clear HT0 r0 z3
    obtain ⟨k, ga, gc, lab, d, hdk, hk1, hk3, hT⟩ := hrel
    have r0 := hT.r0
    have z0 : w.heap.size < wr.heap.size := by have := hT.zb; omega
    by_cases hlt : k < nn
    · have j1 : (k : Int) < (nn : Int) := by omega
      have hM1 : lenAt wr ⟨w.heap.size, 0, none⟩ = k := by unfold lenAt; rw [r0]
      have hlen : (Lib.itoa (k : Int)).length ≤ 20 := itoa_le _ (by omega) (by omega)
      have HDC := hide (fun W => l2Dec_calls (k : Int) (by omega) (by omega) W)
      generalize Lib.itoa (k : Int) = l at *
      obtain ⟨q, hq, hcat0⟩ := cat_q [120] l (by simp; omega)
      have hcat : ∀ w, (Op.stringOp .add ⟨#[120]⟩ (mkS l)).run Tryz.prog w = .ok (.string (mkS q)) w := hcat0
      have hql : q.length ≤ 100 := by simp at hq; omega
      have T0 := hide hT
      have HK := hide hdk; have HM1 := hide hM1; have HQL := hide hql
      have HZ : Hid (∀ b, (lab b).1 ≠ 0 ∨ (Value.slice (some ⟨ga, 0, none⟩) k gc).ownBlock = some b ∨ b ≤ bt → b < wr.heap.size) := fun b hb => by
        rcases hb with h1 | h1 | h1
        · exact (hT.db.rng b h1).2.1
        · exact (hT.db.own.lt b h1).2
        · have := hT.zb; omega
      clear hT hdk hM1 hcat0 hq hlen hql
      go_upto_region 19 with fail
      refine wp_region_M (fun W => W.cell? ⟨w.heap.size, 0, none⟩ = some (.slice (some ⟨ga, 0, none⟩) k gc) ∧ W.cell? ⟨w.heap.size, 0, none⟩ = some (.slice (some ⟨ga, 0, none⟩) k gc)) 12 (by kernel_rfl) ⟨r0, r0⟩ (fun hHeld => ?_)
      refine tM 0 97 (.pointer (some ⟨w.heap.size, 0, none⟩)) ?_
      simp only [puts]
      refine tM 1 98 (.slice (some ⟨ga, 0, none⟩) k gc) ?_
      simp only [puts]
      refine tM 2 99 (.pointer (some ⟨w.heap.size, 0, none⟩)) ?_
      simp only [puts]
      refine tM 3 100 (.slice (some ⟨ga, 0, none⟩) k gc) ?_
      simp only [puts]
      refine tM 4 101 (.int .i64 (k : Int)) ?_
      simp only [puts]
      refine wpM_ready (rs := [5, 7]) (by kernel_rfl) (by simp) ?_
      refine AllM.cons rfl (fun Kx hK => ?_) (AllM.cons rfl (fun Kx hK => ?_) AllM.nil)
      · go_simp
        refine (unhide HDC _).mono ?_
        rintro e w6 ⟨rfl, hb6⟩
        have hb9 : Below wr.heap.size wr w6 := bT (Below.refl _ _).drew hb6
        have y0 := (hb9.cell (p := ⟨w.heap.size, 0, none⟩) z0).trans r0
        have y2 : w.heap.size < w6.heap.size := Nat.lt_of_lt_of_le z0 hb9.size
        have HB9 := hide hb9
        clear hb6 hb9
        refine hK.out _ _ (fun _ => ⟨y0, y0⟩) ?_
        clear hK Kx
        have hH6 := And.intro y0 y0
        refine tM 6 103 (.string (mkS q)) ?_
        simp only [puts]
        refine wpM_ready (rs := [7]) (by kernel_rfl) (by simp) ?_
        refine AllM.cons rfl (fun Kx hK => ?_) AllM.nil
        go_simp
        have y9 : (w6.alloc (.cells #[] 52)).cell? ⟨w.heap.size, 0, none⟩ = some (.slice (some ⟨ga, 0, none⟩) k gc) := ((bA (Below.refl w6.heap.size w6) (.cells #[] 52)).cell (p := ⟨w.heap.size, 0, none⟩) y2).trans y0
        refine hK.out _ _ (fun _ => ⟨y9, y9⟩) ?_
        clear hK Kx
        have hH7 := And.intro y9 y9
        refine tM 8 105 (.agg #[.string (mkS q), .int .i64 1, .slice (some ⟨w6.heap.size, 0, none⟩) 0 0]) ?_
        simp only [puts]
        refine wpM_ready (rs := [9]) (by kernel_rfl) (by simp) ?_
        refine AllM.cons rfl (fun Kx hK => ?_) AllM.nil
        go_simp
        have hal := bA (bA (Below.refl w6.heap.size w6) (.cells #[] 52)) (.cells #[.string (mkS q), .int .i64 1, .slice (some ⟨w6.heap.size, 0, none⟩) 0 0] 32)
        have T3 := hide ((unhide T0).of (bT (unhide HB9) hal))
        have hH8 := And.intro (unhide T3).r0 (unhide T3).r0
        refine hK.out _ _ (fun _ => hH8) ?_
        clear hK Kx
        refine wpM_ready (rs := [10]) (by kernel_rfl) (by simp) ?_
        refine AllM.cons rfl (fun Kx hK => ?_) AllM.nil
        refine step_append_lies _ rfl (.tmp 98) (.tmp 106) 24 rfl B 32 ti _ 3 48 Tryz.underlying24 hti hz0 hz1 hz2 rfl (by decide) (.slice (some ⟨ga, 0, none⟩) k gc) k (tcs d) rfl (show World.ownsRow _ B _ 3 (.slice (some ⟨ga, 0, none⟩) k gc) k (tcs d) from by have h' := (unhide T3).db.own; rw [unhide HK] at h'; exact h') ⟨w6.heap.size + 1, 0, none⟩ 1 1 [.string (mkS q), .int .i64 1, .slice (some ⟨w6.heap.size, 0, none⟩) 0 0] rfl rfl (World.news_of_block (cs := #[.string (mkS q), .int .i64 1, .slice (some ⟨w6.heap.size, 0, none⟩) 0 0]) (w := ((w6.alloc (.cells #[] 52)).alloc (.cells #[.string (mkS q), .int .i64 1, .slice (some ⟨w6.heap.size, 0, none⟩) 0 0] 32))) (B := w6.heap.size + 1) (by have h' := (MapKept.heap_alloc (w6.alloc (.cells #[] 52)) (.cells #[.string (mkS q), .int .i64 1, .slice (some ⟨w6.heap.size, 0, none⟩) 0 0] 32)).1; rw [show (w6.alloc (.cells #[] 52)).heap.size = w6.heap.size + 1 by simp] at h'; exact h')) (by intro u hu; simp at hu; rcases hu with rfl | rfl | rfl <;> rfl) (by decide) (by unfold maxLen; omega) (by omega) (by simp; omega) _ rfl ?_
        intro G2 c3 w8 hown hgrow hat hlt2
        have hB8 := ButB.grown (S := fun b => (Value.slice (some ⟨ga, 0, none⟩) k gc).ownBlock = some b) hgrow (fun b e => e)
        have z3 : w.heap.size < _ := Nat.lt_trans (Nat.lt_trans (Nat.lt_succ_self _) (unhide T3).hbt) (unhide T3).zb
        have y3 := (hB8.cell w.heap.size 0 z3 (unhide T3).v0).trans (unhide T3).r0
        have y4 := fun o => (hB8.frz w.heap.size o z3 (unhide T3).v0).trans ((unhide T3).rf o)
        have y5 : w.heap.size < w8.heap.size := Nat.lt_of_lt_of_le z3 hB8.size
        have HP : Hid (∃ (lab' : Lq) (d' : List Td), d'.length = k + 1 ∧ SpT w (w8.setCell ⟨w.heap.size, 0, none⟩ (.slice (some ⟨G2, 0, none⟩) (k + 1) c3)) R B bt I t d' lab' (.slice (some ⟨G2, 0, none⟩) (k + 1) c3)) := by
          have h9 := SpT.push (z := wr.heap.size) (e0 := w6.heap.size) (nm := q) (g2 := G2) (c2 := c3) (unhide T3) (unhide HZ) (by have := (unhide HB9).size; omega) (((bA (Below.refl _ (w6.alloc (.cells #[] 52))) _).block w6.heap.size (by simp)).trans (MapKept.heap_alloc w6 _).1) (unhide HQL) (by rw [unhide HK]; omega) (by rw [unhide HK]; exact hown) hgrow hat
          rw [unhide HK] at h9
          exact ⟨_, _, by rw [List.length_append, unhide HK]; rfl, h9⟩
        clear hown hgrow hat hlt2 T3 hal hB8 z3 hH8
        refine hK.out _ _ (fun _ => ⟨y3, y3⟩) ?_
        clear hK Kx
        (try simp only [puts])
        refine tM 11 108 (.pointer (some ⟨w.heap.size, 0, none⟩)) ?_ (hS := ⟨y3, y3⟩)
        (try simp only [puts])
        refine wpM_ready (rs := [12]) (by kernel_rfl) (by simp) ?_
        refine AllM.cons rfl (fun Kx hK => ?_) AllM.nil
        go_simp
        refine hK.out _ _ (fun h => Bool.noConfusion (show true = false from h)) ?_
        clear hK Kx
        refine wpM_done (by kernel_rfl) ?_ _
        have HM2 : Hid (lenAt (w8.setCell ⟨w.heap.size, 0, none⟩ (.slice (some ⟨G2, 0, none⟩) (k + 1) c3)) ⟨w.heap.size, 0, none⟩ = k + 1) := by
          show _ = _
          unfold lenAt
          rw [World.cell?_setCell_same _ _ _ y3]
        have HP2 := HP
        clear HP HDC T0 HZ HB9
        go_wp2
        go_roundw
        case rel =>
          obtain ⟨lab', d', hd', hT'⟩ := unhide HP2
          have HR9 : ∃ (k2 ga gc : Nat) (lab : Lq) (d : List Td), d.length = k2 ∧ k2 ≤ 51 ∧ 3 ≤ k2 ∧ SpT w (w8.setCell ⟨w.heap.size, 0, none⟩ (.slice (some ⟨G2, 0, none⟩) (k + 1) c3)) R B bt I t d lab (.slice (some ⟨ga, 0, none⟩) k2 gc) := ⟨k + 1, G2, c3, lab', d', hd', by omega, by omega, hT'⟩
          first | exact HR9 | ((repeat apply Exists.intro); exact ⟨HR9, rfl⟩)
        case measure => rw [unhide HM1, unhide HM2]; omega
      · go_simp
        have y9 : (wr.drew.alloc (.cells #[] 52)).cell? ⟨w.heap.size, 0, none⟩ = some (.slice (some ⟨ga, 0, none⟩) k gc) := ((bA (Below.refl wr.drew.heap.size wr.drew) (.cells #[] 52)).cell (p := ⟨w.heap.size, 0, none⟩) z0).trans r0
        refine hK.out _ _ (fun _ => ⟨y9, y9⟩) ?_
        clear hK Kx
        refine wpM_ready (rs := [5]) (by kernel_rfl) (by simp) ?_
        refine AllM.cons rfl (fun Kx hK => ?_) AllM.nil
        go_simp
        refine (unhide HDC _).mono ?_
        rintro e w6 ⟨rfl, hb6⟩
        have hb9 : Below wr.heap.size wr w6 := bT (bA (Below.refl _ _).drew _) hb6
        have HE : Hid (w6.heap[wr.heap.size]? = some (.cells #[] 52 (0, 0))) := ((hb6.block wr.heap.size (by simp)).trans (MapKept.heap_alloc wr.drew _).1)
        have y0 := (hb9.cell (p := ⟨w.heap.size, 0, none⟩) z0).trans r0
        have y2 : w.heap.size < w6.heap.size := Nat.lt_of_lt_of_le z0 hb9.size
        have HB9 := hide hb9
        clear hb6 hb9
        refine hK.out _ _ (fun _ => ⟨y0, y0⟩) ?_
        clear hK Kx
        have hH6 := And.intro y0 y0
        refine tM 6 103 (.string (mkS q)) ?_
        simp only [puts]
        refine tM 8 105 (.agg #[.string (mkS q), .int .i64 1, .slice (some ⟨wr.heap.size, 0, none⟩) 0 0]) ?_
        simp only [puts]
        refine wpM_ready (rs := [9]) (by kernel_rfl) (by simp) ?_
        refine AllM.cons rfl (fun Kx hK => ?_) AllM.nil
        go_simp
        have hal := bA (Below.refl w6.heap.size w6) (.cells #[.string (mkS q), .int .i64 1, .slice (some ⟨wr.heap.size, 0, none⟩) 0 0] 32)
        have T3 := hide ((unhide T0).of (bT (unhide HB9) hal))
        have hH8 := And.intro (unhide T3).r0 (unhide T3).r0
        refine hK.out _ _ (fun _ => hH8) ?_
        clear hK Kx
        refine wpM_ready (rs := [10]) (by kernel_rfl) (by simp) ?_
        refine AllM.cons rfl (fun Kx hK => ?_) AllM.nil
        refine step_append_lies _ rfl (.tmp 98) (.tmp 106) 24 rfl B 32 ti _ 3 48 Tryz.underlying24 hti hz0 hz1 hz2 rfl (by decide) (.slice (some ⟨ga, 0, none⟩) k gc) k (tcs d) rfl (show World.ownsRow _ B _ 3 (.slice (some ⟨ga, 0, none⟩) k gc) k (tcs d) from by have h' := (unhide T3).db.own; rw [unhide HK] at h'; exact h') ⟨w6.heap.size, 0, none⟩ 1 1 [.string (mkS q), .int .i64 1, .slice (some ⟨wr.heap.size, 0, none⟩) 0 0] rfl rfl (World.news_of_block (cs := #[.string (mkS q), .int .i64 1, .slice (some ⟨wr.heap.size, 0, none⟩) 0 0]) (MapKept.heap_alloc w6 _).1) (by intro u hu; simp at hu; rcases hu with rfl | rfl | rfl <;> rfl) (by decide) (by unfold maxLen; omega) (by omega) (by simp; omega) _ rfl ?_
        intro G2 c3 w8 hown hgrow hat hlt2
        have hB8 := ButB.grown (S := fun b => (Value.slice (some ⟨ga, 0, none⟩) k gc).ownBlock = some b) hgrow (fun b e => e)
        have z3 : w.heap.size < _ := Nat.lt_trans (Nat.lt_trans (Nat.lt_succ_self _) (unhide T3).hbt) (unhide T3).zb
        have y3 := (hB8.cell w.heap.size 0 z3 (unhide T3).v0).trans (unhide T3).r0
        have y4 := fun o => (hB8.frz w.heap.size o z3 (unhide T3).v0).trans ((unhide T3).rf o)
        have y5 : w.heap.size < w8.heap.size := Nat.lt_of_lt_of_le z3 hB8.size
        have HP : Hid (∃ (lab' : Lq) (d' : List Td), d'.length = k + 1 ∧ SpT w (w8.setCell ⟨w.heap.size, 0, none⟩ (.slice (some ⟨G2, 0, none⟩) (k + 1) c3)) R B bt I t d' lab' (.slice (some ⟨G2, 0, none⟩) (k + 1) c3)) := by
          have h9 := SpT.push (z := wr.heap.size) (e0 := wr.heap.size) (nm := q) (g2 := G2) (c2 := c3) (unhide T3) (unhide HZ) (by have := (unhide HB9).size; omega) ((hal.block wr.heap.size (Array.getElem?_eq_some_iff.1 (unhide HE)).1).trans (unhide HE)) (unhide HQL) (by rw [unhide HK]; omega) (by rw [unhide HK]; exact hown) hgrow hat
          rw [unhide HK] at h9
          exact ⟨_, _, by rw [List.length_append, unhide HK]; rfl, h9⟩
        clear hown hgrow hat hlt2 T3 hal hB8 z3 hH8
        refine hK.out _ _ (fun _ => ⟨y3, y3⟩) ?_
        clear hK Kx
        (try simp only [puts])
        refine tM 11 108 (.pointer (some ⟨w.heap.size, 0, none⟩)) ?_ (hS := ⟨y3, y3⟩)
        (try simp only [puts])
        refine wpM_ready (rs := [12]) (by kernel_rfl) (by simp) ?_
        refine AllM.cons rfl (fun Kx hK => ?_) AllM.nil
        go_simp
        refine hK.out _ _ (fun h => Bool.noConfusion (show true = false from h)) ?_
        clear hK Kx
        refine wpM_done (by kernel_rfl) ?_ _
        have HM2 : Hid (lenAt (w8.setCell ⟨w.heap.size, 0, none⟩ (.slice (some ⟨G2, 0, none⟩) (k + 1) c3)) ⟨w.heap.size, 0, none⟩ = k + 1) := by
          show _ = _
          unfold lenAt
          rw [World.cell?_setCell_same _ _ _ y3]
        have HP2 := HP
        clear HP HDC T0 HZ HB9
        go_wp2
        go_roundw
        case rel =>
          obtain ⟨lab', d', hd', hT'⟩ := unhide HP2
          have HR9 : ∃ (k2 ga gc : Nat) (lab : Lq) (d : List Td), d.length = k2 ∧ k2 ≤ 51 ∧ 3 ≤ k2 ∧ SpT w (w8.setCell ⟨w.heap.size, 0, none⟩ (.slice (some ⟨G2, 0, none⟩) (k + 1) c3)) R B bt I t d lab (.slice (some ⟨ga, 0, none⟩) k2 gc) := ⟨k + 1, G2, c3, lab', d', hd', by omega, by omega, hT'⟩
          first | exact HR9 | ((repeat apply Exists.intro); exact ⟨HR9, rfl⟩)
        case measure => rw [unhide HM1, unhide HM2]; omega
    · have j1 : ¬ (k : Int) < (nn : Int) := by omega
      obtain ⟨g', hg', hgB', hgs, hgl', e0, e1, e2⟩ := hT.db.at I t hT.at_
      obtain rfl : ga = g' := by simpa using hg'
      have ef := fun o => (hdk ▸ hT.db.own).frozenAt o
      rw [unhide HU] at e2
      have hTd : TdS wr lab B I ⟨t.nm, t.co, .slice ua t.rs.length uc, t.rs⟩ := by rw [← unhide HU]; exact hT.db.tab I t hT.at_
      have HFin := hide (SpE.finJ (hT.db.toJ I) hdk (by omega) hTd hT.low hR (by omega) hT.l1 (fun e => hT.v1 (by rw [← e]; rfl)))
      have r1 := hT.r1; have r2 := hT.r2; have b0 := hT.b0; have b1 := hT.b1; have b2 := hT.b2; have zb := hT.zb
      rw [unhide HU] at b2
      have z1 : w.heap.size + 1 < wr.heap.size := by omega
      have hIk : (I : Int) < (k : Int) := by omega
      have m1 : ¬ ga = w.heap.size := fun e => hT.v0 (by rw [← e]; rfl)
      have m2 : ¬ ga = w.heap.size + 1 := fun e => hT.v1 (by rw [← e]; rfl)
      have m3 : ¬ ga = bt := fun e => hT.vb (by rw [← e]; rfl)
      have m4 : ¬ w.heap.size = ga := fun e => m1 e.symm
      have m5 : ¬ w.heap.size + 1 = ga := fun e => m2 e.symm
      have m6 : ¬ bt = ga := fun e => m3 e.symm
      clear hT hTd hg'
      go_wp2
      refine bodyPost_ret (v := .agg #[.slice (some ⟨ga, 0, none⟩) k gc]) (by simp [results, Tryz.results36, go_sem, r1]) rfl (unhide HFin)
end Go.Proofs.YtbbjhepagkkjeaaGreatDoor
