import Derived.Test.YtbbjhepagkkjeaaGreatDoorDwSpA
import Derived.Deep.RegionLaw
namespace Go.Proofs.YtbbjhepagkkjeaaGreatDoor
open Go Go.RowKit
set_option maxRecDepth 100000 in
set_option maxHeartbeats 16000000 in
theorem l3SpoilDb_DwSpo0 (w : World) (R : Nat) (a : Option Addr) (cap : Nat) (bs : List Nat) (p : Nat) (h : Rd w R a cap bs p) (lab : Lq) (B : Nat) (v : Value) (d : List Td) (hD : DbS w lab B v d) (hRB : R < B) (_hBw : B ≤ w.heap.size) (hd3 : d.length = 3) (hpos : ∀ t ∈ d, 0 ≤ t.co ∧ t.co ≤ 3 ∧ t.rs.length ≤ 1000) (hy9 : (nxt bs p : Int) % 8 = 0 ∨ (nxt bs p : Int) % 8 = 1 ∨ (nxt bs p : Int) % 8 = 3 ∨ (nxt bs p : Int) % 8 = 6 ∨ (nxt bs p : Int) % 8 = 7) :
    Calls Tryz.prog 36 #[.pointer (some ⟨R, 0, none⟩), .agg #[v]] w (SpE w R B) := by
  have HY := hide hy9
  clear hy9
  obtain ⟨va, vc, rfl⟩ := hD.form
  rw [hd3] at hD ⊢
  have hR := h.size
  have hBb : Below w.heap.size w ((w.alloc (.cells #[.slice va 3 vc] 26)).alloc (.cells #[.slice none 0 0] 26)) := bA (bA (Below.refl _ _) _) _
  have N1 := hide (next_calls _ R a cap bs p (h.of hBb))
  have hk := nxt_le h p
  have HD := hide (hD.of hBb); have HBb := hide hBb
  have hl0 : (lab w.heap.size).1 = 0 := by
    apply Classical.byContradiction
    intro e
    have := (hD.rng _ e).2.1
    omega
  have HVw : Hid (∀ g, (Value.slice va 3 vc).ownBlock = some g → g < w.heap.size) := fun g e => (hD.own.lt g e).2
  have hl1 : (lab (w.heap.size + 1)).1 = 0 := by
    apply Classical.byContradiction
    intro e
    have := (hD.rng _ e).2.1
    omega
  clear h hBb hD
  go_enter Tryz.func36, Tryz.ntmps36
  go_wp2_with fail
  refine (unhide N1).mono ?_; rintro e w1 ⟨rfl, hr1, hd1⟩
  have N2 := hide (fun W hW => next_calls W R a cap bs (adv bs p) hW)
  have q0 : w1.cell? ⟨w.heap.size, 0, none⟩ = some (.slice va 3 vc) := (hd1.cell 0 (by simp; omega) (by omega)).trans (by simp [go_sem])
  have q1 : w1.cell? ⟨w.heap.size + 1, 0, none⟩ = some (.slice none 0 0) := (hd1.cell 0 (by simp) (by omega)).trans (by simp [go_sem])
  have q2 : ∀ o, w1.frozen? ⟨w.heap.size + 1, o, none⟩ = false := fun o => (hd1.frozen o (by simp) (by omega)).trans (by simp [go_sem])
  have HZ1 : Hid (∀ o, w1.frozen? ⟨w.heap.size, o, none⟩ = false) := fun o => (hd1.frozen o (by simp; omega) (by omega)).trans (by simp [go_sem])
  have qs : w.heap.size + 1 < w1.heap.size := by have := hd1.size; simp at this; omega
  have qs0 : w.heap.size < w1.heap.size := by omega
  have hk2 := nxt_le hr1 (adv bs p)
  have HN2 := hide (unhide N2 w1.drew (hr1.of (Below.refl _ _).drew))
  have HD1 := hide ((unhide HD).butB hd1.toBut (fun g e e' => by have := ((unhide HD).own.lt g e).1; omega) (fun b e e' => by have := ((unhide HD).rng b e).1; omega))
  have HL1 := hide ((unhide HBb).mono (show R ≤ w.heap.size by omega) |>.trans hd1.low)
  clear N1 N2 hr1 hd1 HD HBb
  generalize nxt bs p = K at *
  generalize nxt bs (adv bs p) = K2 at *
  generalize adv bs (adv bs p) = p2 at *
  obtain ⟨I, hI⟩ : ∃ I : Nat, (K2 : Int) % 3 = (I : Int) := ⟨K2 % 3, by omega⟩
  have hI3 : I < 3 := by omega
  have hIt : (K2 : Int).tmod 3 = (I : Int) := by rw [Int.tmod_eq_emod_of_nonneg (by omega)]; exact hI
  go_upto_region 2 with fail
  refine wp_region_held_drew (S := fun W => W.cell? ⟨w.heap.size, 0, none⟩ = some (.slice va 3 vc) ∧ W.cell? ⟨w.heap.size, 0, none⟩ = some (.slice va 3 vc)) (by kernel_rfl) ⟨q0, q0⟩ (fun hHeld => ?_)
  refine tW 0 12 (.pointer (some ⟨R, 0, none⟩)) ?_
  simp only [puts]
  refine tW 2 14 (.pointer (some ⟨w.heap.size, 0, none⟩)) ?_
  simp only [puts]
  refine tW 3 15 (.slice va 3 vc) ?_
  simp only [puts]
  refine tW 4 16 (.int .i64 3) ?_
  simp only [puts]
  refine wpAnyH_ready (rs := [1]) (by kernel_rfl) (by simp) ?_
  refine AllReadyH.cons rfl (fun Kx hK => ?_) AllReadyH.nil
  go_simp
  refine (unhide HN2).mono ?_
  rintro e w2 ⟨rfl, hr2, hd2⟩
  have q0' : w2.cell? ⟨w.heap.size, 0, none⟩ = some (.slice va 3 vc) := (hd2.cell 0 qs0 (by omega)).trans q0
  have q1' : w2.cell? ⟨w.heap.size + 1, 0, none⟩ = some (.slice none 0 0) := (hd2.cell 0 qs (by omega)).trans q1
  have q2' : ∀ o, w2.frozen? ⟨w.heap.size + 1, o, none⟩ = false := fun o => (hd2.frozen o qs (by omega)).trans (q2 o)
  have HZ2 : Hid (∀ o, w2.frozen? ⟨w.heap.size, o, none⟩ = false) := fun o => (hd2.frozen o qs0 (by omega)).trans (unhide HZ1 o)
  have qs' : w.heap.size + 1 < w2.heap.size := Nat.lt_of_lt_of_le qs hd2.size
  have qs0' : w.heap.size < w2.heap.size := by omega
  refine hK.out _ _ ⟨q0', q0'⟩ (fun hHeld2 => ?_)
  clear hK Kx
  refine tW 5 17 (.int .i64 (I : Int)) ?_
  simp only [puts]
  refine tW 6 6 (.int .i64 (I : Int)) ?_
  simp only [puts]
  refine wpAnyH_done (by kernel_rfl) ?_ _
  have hDr := (unhide HD1).of (Below.refl w1.heap.size w1).drew
  have hD2 := hDr.butB hd2.toBut (fun g e e' => by have := (hDr.own.lt g e).1; omega) (fun b e e' => by have := (hDr.rng b e).1; omega)
  have HL2 := hide ((unhide HL1).trans ((Below.refl R w1).drew.trans hd2.low))
  obtain ⟨t, ht⟩ : ∃ t, d[I]? = some t := ⟨d[I]'(by omega), List.getElem?_eq_getElem (by omega)⟩
  obtain ⟨g, rfl, hgB, hg, hgl, c0, c1, c2⟩ := hD2.at I t ht
  have hT := hD2.tab I t ht
  obtain ⟨ua, uc, hu⟩ := hT.form
  rw [hu] at c2
  have hgw : g < w.heap.size := unhide HVw g rfl
  have hI3' : (I : Int) < 3 := by omega
  have HD2 := hide hD2; have HT2 := hide hT; have HU := hide hu; have HTi := hide ht; have HR2 := hide hr2
  have hgf := fun o => (hd3 ▸ hD2.own).frozenAt o
  clear hHeld hHeld2 hDr hD2 hT hu ht hr2 hd2 HD1 HL1 HN2 q0 q1 q2 qs qs0 hI
  have hB3 := bA (Below.refl w2.heap.size w2) (.cells #[.string (mkS t.nm), .int .i64 t.co, .slice ua t.rs.length uc] 32)
  have hD3 := (unhide HD2).of hB3
  have hT3 := (unhide HT2).butB (S := fun _ => False) (ButB.ofBelow hB3) (fun _ _ e => e)
  have e0 := (hB3.cell (p := ⟨g, I * 3, none⟩) hg).trans c0
  have e1 := (hB3.cell (p := ⟨g, I * 3 + 1, none⟩) hg).trans c1
  have e2 := (hB3.cell (p := ⟨g, I * 3 + 2, none⟩) hg).trans c2
  have ef := fun o => (hB3.frozen (p := ⟨g, o, none⟩) hg).trans (hgf o)
  have r0 := (hB3.cell (p := ⟨w.heap.size, 0, none⟩) qs0').trans q0'
  have r1 := (hB3.cell (p := ⟨w.heap.size + 1, 0, none⟩) qs').trans q1'
  have r2 := fun o => (hB3.frozen (p := ⟨w.heap.size + 1, o, none⟩) qs').trans (q2' o)
  have HZ3 := hide (fun o => (hB3.frozen (p := ⟨w.heap.size, o, none⟩) qs0').trans (unhide HZ2 o))
  obtain ⟨b0, b1, b2⟩ := (fun Q (hQ : (w2.alloc (.cells #[.string (mkS t.nm), .int .i64 t.co, .slice ua t.rs.length uc] 32)) = Q) => (by subst hQ; exact ⟨by simp [go_sem], by simp [go_sem], by simp [go_sem]⟩ : Q.cell? ⟨w2.heap.size, 0, none⟩ = some (.string (mkS t.nm)) ∧ Q.cell? ⟨w2.heap.size, 1, none⟩ = some (.int .i64 t.co) ∧ Q.cell? ⟨w2.heap.size, 2, none⟩ = some (.slice ua t.rs.length uc))) _ rfl
  have bf : ∀ o, (w2.alloc (.cells #[.string (mkS t.nm), .int .i64 t.co, .slice ua t.rs.length uc] 32)).frozen? ⟨w2.heap.size, o, none⟩ = false := fun o => by simp [go_sem]
  have z0 : w.heap.size + 1 < (w2.alloc (.cells #[.string (mkS t.nm), .int .i64 t.co, .slice ua t.rs.length uc] 32)).heap.size := by simp; omega
  have z1 : w2.heap.size < (w2.alloc (.cells #[.string (mkS t.nm), .int .i64 t.co, .slice ua t.rs.length uc] 32)).heap.size := by simp
  have z2 : g < (w2.alloc (.cells #[.string (mkS t.nm), .int .i64 t.co, .slice ua t.rs.length uc] 32)).heap.size := by simp; omega
  have z3 : w.heap.size < (w2.alloc (.cells #[.string (mkS t.nm), .int .i64 t.co, .slice ua t.rs.length uc] 32)).heap.size := by omega
  have x1 : w.heap.size + 1 < w2.heap.size := qs'
  have HD3 := hide hD3; have HT3 := hide hT3; have HR3 := hide ((unhide HR2).of hB3)
  have HL3 := hide (bT2 (unhide HL2) hB3)
  have hlb : (lab w2.heap.size).1 = 0 := by
    apply Classical.byContradiction
    intro e
    have := ((unhide HD2).rng _ e).2.1
    omega
  have hpt := hpos t (List.mem_of_getElem? (unhide HTi))
  clear hB3 hD3 hT3 HD2 HT2 HR2 HL2 hgf
  go_upto_region 4 with fail
  clear c0 c1 c2 q0' q1' q2' qs' qs0' hg hI3'
  generalize (w2.alloc (.cells #[.string (mkS t.nm), .int .i64 t.co, .slice ua t.rs.length uc] 32)) = W at *
  generalize w2.heap.size = bt at *
  obtain ⟨M, hM⟩ : ∃ M : Nat, (K : Int) / 8 = (M : Int) := ⟨K / 8, by omega⟩
  have hM2 : M ≤ 31 := by omega
  have hMw : IntKind.i64.wrap (M : Int) = (M : Int) := wrap_small _ (by omega) (by omega)
  have hI3' : (I : Int) < 3 := by omega
  have n1 : ¬ g = bt := by omega
  have n2 : ¬ bt = g := by omega
  have n3 : ¬ g = w.heap.size := by omega
  have n4 : ¬ g = w.heap.size + 1 := by omega
  have n5 : ¬ bt = w.heap.size := by omega
  have n6 : ¬ bt = w.heap.size + 1 := by omega
  have n7 : ¬ w.heap.size = g := by omega
  have n8 : ¬ w.heap.size + 1 = g := by omega
  have n9 : ¬ w.heap.size = bt := by omega
  have n10 : ¬ w.heap.size + 1 = bt := by omega
  have HF0 : Hid (SpF w W g bt I vc t t.nm t.co t.u) := ⟨e0, e1, by rw [unhide HU]; exact e2, ef, r0, r1, r2, b0, b1, by rw [unhide HU]; exact b2, bf, z2, z0, z1⟩
  have HBt : Hid (∀ b, (lab b).1 ≠ 0 → ¬ b = bt) := fun b e e' => e (by rw [e']; exact hlb)
  have hRg : R ≤ g := by omega
  have hRb : R ≤ bt := by omega
  rcases unhide HY with y | y | y | y | y
  · have HO := hide (fun W => l2OddName_calls M (by omega) W)
    go_wp2_with fail
    refine (unhide HO _).mono ?_; rintro e w4 ⟨nm', rfl, hnm, hb4⟩
    have f4 := (unhide HF0).of hb4
    have f0 := f4.b0
    have ff := f4.bf
    have fz := f4.zb
    have f5 := f4.set0 n2 n5 n6 nm'
    have kB : ButB (fun b => b = bt) w4 (w4.setCell ⟨bt, 0, none⟩ (.string (mkS nm'))) := ButB.set (S := fun b => b = bt) (ButB.refl _ _) (Or.inl rfl) _
    have hD5 := ((unhide HD3).of hb4).butB kB (fun g' e e' => by simp [Value.ownBlock] at e; omega) (unhide HBt)
    have hT4 := ((unhide HT3).butB (S := fun _ => False) (ButB.ofBelow hb4) (fun _ _ e => e)).butB kB (unhide HBt)
    have hT5 : TdS (w4.setCell ⟨bt, 0, none⟩ (.string (mkS nm'))) lab B I ⟨nm', t.co, .slice ua t.rs.length uc, t.rs⟩ := ⟨hnm, hT4.lo, hT4.hi, hT4.few, by have := hT4.own; rw [unhide HU] at this; exact this, fun G e => hT4.blk G (by rw [unhide HU]; exact e), hT4.row⟩
    have hL5 := (bT2 (unhide HL3) hb4).setCell (p := ⟨bt, 0, none⟩) hRb (.string (mkS nm'))
    have HFin := hide (SpE.fin hD5 hd3 hI3 hT5 hL5 hR hRg hl1 n4)
    have HF := hide f5
    clear f4 f5 kB hD5 hT4 hT5 hL5 hb4 hnm HO HF0 HBt HD3 HT3 HR3 HL3
    go_upto_region 24 with fail
    generalize (w4.setCell ⟨bt, 0, none⟩ (.string (mkS nm'))) = W5 at *
    clear e0 e1 e2 ef r0 r1 r2 b0 b1 b2 bf z0 z1 z2 z3
    obtain ⟨e0, e1, e2, ef, r0, r1, r2, b0, b1, b2, bf, zg, z0, zb⟩ := unhide HF
    rw [unhide HU] at e2 b2
    have z3 : w.heap.size < W5.heap.size := by omega
    go_wp2
    refine bodyPost_ret (v := .agg #[.slice (some ⟨g, 0, none⟩) 3 vc]) (by simp [results, Tryz.results36, go_sem, r1]) rfl (unhide HFin)
  · have hcw : IntKind.i64.wrap ((M : Int) - 2) = (M : Int) - 2 := wrap_small _ (by omega) (by omega)
    have f5 := (unhide HF0).set1 n2 n5 n6 ((M : Int) - 2)
    have kB : ButB (fun b => b = bt) W (W.setCell ⟨bt, 1, none⟩ (.int .i64 ((M : Int) - 2))) := ButB.set (S := fun b => b = bt) (ButB.refl _ _) (Or.inl rfl) _
    have hD5 := (unhide HD3).butB kB (fun g' e e' => by simp [Value.ownBlock] at e; omega) (unhide HBt)
    have hT4 := (unhide HT3).butB kB (unhide HBt)
    have hT5 : TdS (W.setCell ⟨bt, 1, none⟩ (.int .i64 ((M : Int) - 2))) lab B I ⟨t.nm, (M : Int) - 2, .slice ua t.rs.length uc, t.rs⟩ := ⟨hT4.nm, by show (-1000 : Int) ≤ (M : Int) - 2; omega, by show (M : Int) - 2 ≤ 1000; omega, hT4.few, by have := hT4.own; rw [unhide HU] at this; exact this, fun G e => hT4.blk G (by rw [unhide HU]; exact e), hT4.row⟩
    have hL5 := (unhide HL3).setCell (p := ⟨bt, 1, none⟩) hRb (.int .i64 ((M : Int) - 2))
    have HFin := hide (SpE.fin hD5 hd3 hI3 hT5 hL5 hR hRg hl1 n4)
    have HF := hide f5
    clear f5 kB hD5 hT4 hT5 hL5 HF0 HBt HD3 HT3 HR3 HL3
    go_upto_region 24 with fail
    generalize (W.setCell ⟨bt, 1, none⟩ (.int .i64 ((M : Int) - 2))) = W5 at *
    clear e0 e1 e2 ef r0 r1 r2 b0 b1 b2 bf z0 z1 z2 z3
    obtain ⟨e0, e1, e2, ef, r0, r1, r2, b0, b1, b2, bf, zg, z0, zb⟩ := unhide HF
    rw [unhide HU] at e2 b2
    have z3 : w.heap.size < W5.heap.size := by omega
    go_wp2
    refine bodyPost_ret (v := .agg #[.slice (some ⟨g, 0, none⟩) 3 vc]) (by simp [results, Tryz.results36, go_sem, r1]) rfl (unhide HFin)
  · obtain ⟨J, hJ⟩ : ∃ J : Nat, ((I : Int) + 1) % 3 = (J : Int) := ⟨(I + 1) % 3, by omega⟩
    have hJ3 : (J : Int) < 3 := by omega
    obtain ⟨s, hs⟩ : ∃ s, d[J]? = some s := ⟨d[J]'(by omega), List.getElem?_eq_getElem (by omega)⟩
    obtain ⟨g', hg', _, _, _, s0, _, _⟩ := (unhide HD3).at J s hs
    obtain rfl : g = g' := by simpa using hg'
    have hnm := ((unhide HD3).tab J s hs).nm
    generalize s.nm = nm' at *
    have f5 := (unhide HF0).set0 n2 n5 n6 nm'
    have kB : ButB (fun b => b = bt) W (W.setCell ⟨bt, 0, none⟩ (.string (mkS nm'))) := ButB.set (S := fun b => b = bt) (ButB.refl _ _) (Or.inl rfl) _
    have hD5 := (unhide HD3).butB kB (fun g' e e' => by simp [Value.ownBlock] at e; omega) (unhide HBt)
    have hT4 := (unhide HT3).butB kB (unhide HBt)
    have hT5 : TdS (W.setCell ⟨bt, 0, none⟩ (.string (mkS nm'))) lab B I ⟨nm', t.co, .slice ua t.rs.length uc, t.rs⟩ := ⟨hnm, hT4.lo, hT4.hi, hT4.few, by have := hT4.own; rw [unhide HU] at this; exact this, fun G e => hT4.blk G (by rw [unhide HU]; exact e), hT4.row⟩
    have hL5 := (unhide HL3).setCell (p := ⟨bt, 0, none⟩) hRb (.string (mkS nm'))
    have HFin := hide (SpE.fin hD5 hd3 hI3 hT5 hL5 hR hRg hl1 n4)
    have HF := hide f5
    clear f5 kB hD5 hT4 hT5 hL5 hnm HF0 HBt HD3 HT3 HR3 HL3 hs hg'
    go_upto_region 24 with fail
    generalize (W.setCell ⟨bt, 0, none⟩ (.string (mkS nm'))) = W5 at *
    clear e0 e1 e2 ef r0 r1 r2 b0 b1 b2 bf z0 z1 z2 z3
    obtain ⟨e0, e1, e2, ef, r0, r1, r2, b0, b1, b2, bf, zg, z0, zb⟩ := unhide HF
    rw [unhide HU] at e2 b2
    have z3 : w.heap.size < W5.heap.size := by omega
    go_wp2
    refine bodyPost_ret (v := .agg #[.slice (some ⟨g, 0, none⟩) 3 vc]) (by simp [results, Tryz.results36, go_sem, r1]) rfl (unhide HFin)
  · obtain ⟨c6, hc6⟩ : ∃ c6 : Nat, 16 + (M : Int) % 2 = (c6 : Int) := ⟨16 + M % 2, by omega⟩
    have hc7 : c6 ≤ 17 := by omega
    have hcw : IntKind.i64.wrap (c6 : Int) = (c6 : Int) := wrap_small _ (by omega) (by omega)
    have f5 := (unhide HF0).set1 n2 n5 n6 (c6 : Int)
    have kB : ButB (fun b => b = bt) W (W.setCell ⟨bt, 1, none⟩ (.int .i64 (c6 : Int))) := ButB.set (S := fun b => b = bt) (ButB.refl _ _) (Or.inl rfl) _
    have hD5 := (unhide HD3).butB kB (fun g' e e' => by simp [Value.ownBlock] at e; omega) (unhide HBt)
    have hr5 := (unhide HR3).butB kB (fun b e => by omega)
    have hL5 := (unhide HL3).setCell (p := ⟨bt, 1, none⟩) hRb (.int .i64 (c6 : Int))
    have hnm := (unhide HT3).nm
    have HDR := hide (l1DrawRow_calls _ R a cap bs p2 c6 hr5 (by omega))
    have HF5 := hide f5; have HD5 := hide hD5; have HL5 := hide hL5; have HNm := hide hnm
    clear f5 kB hD5 hr5 hL5 hnm HF0 HD3 HT3 HR3 HL3
    go_wp2_with fail
    refine (unhide HDR).mono ?_; rintro e w6 ⟨⟨g1, k1, rfl, ho1⟩, hr6, hd6⟩
    have hsz : (W.setCell ⟨bt, 1, none⟩ (.int .i64 (c6 : Int))).heap.size = W.heap.size := by simp
    have hxl := dRowN_length bs p2 c6
    have hg1 := ho1.lt
    rw [hsz] at hg1
    have hs6 : W.heap.size ≤ w6.heap.size := by have := hd6.size; omega
    have f6 := (unhide HF5).but hd6.toBut (by omega) (by omega) (by omega) (by omega)
    have f7 := f6.of (bA (Below.refl w6.heap.size w6) (.cells #[.slice (some ⟨g1, 0, none⟩) c6 k1] 52))
    have f8 := f7.set2 n2 n5 n6 (.slice (some ⟨w6.heap.size, 0, none⟩) 1 1)
    have hD6 := (unhide HD5).butB hd6.toBut (fun g' e e' => by simp [Value.ownBlock] at e; omega) (fun b e e' => by have := ((unhide HD5).rng b e).1; omega)
    have hlz : ∀ b, (lab b).1 ≠ 0 → b < W.heap.size := fun b e => by have := ((unhide HD5).rng b e).2.1; omega
    have hnw : ∀ b, ((labG lab W.heap.size w6.heap.size I [(g1, k1, (dRowN bs p2 c6).1)]) b).1 ≠ 0 → (lab b).1 ≠ 0 ∨ (W.heap.size ≤ b ∧ b ≤ w6.heap.size) := fun b e => by
      rcases labG_new b e with h1 | ⟨h1, h2⟩
      · exact Or.inl h1
      · refine Or.inr ⟨h1, ?_⟩
        rcases h2 with h2 | ⟨r, hr, h2⟩
        · omega
        · simp only [List.mem_singleton] at hr
          subst hr
          simp only at h2
          omega
    have hD7 := (hD6.of (bA (Below.refl w6.heap.size w6) (.cells #[.slice (some ⟨g1, 0, none⟩) c6 k1] 52))).relab (lab' := (labG lab W.heap.size w6.heap.size I [(g1, k1, (dRowN bs p2 c6).1)])) (labG_old hlz) (fun b e => by
      rcases hnw b e with h1 | h1
      · exact Or.inl h1
      · refine Or.inr ⟨by omega, by simp; omega, fun e' => ?_⟩
        simp [Value.ownBlock] at e'
        omega)
    have hlt : ∀ b, ((labG lab W.heap.size w6.heap.size I [(g1, k1, (dRowN bs p2 c6).1)]) b).1 ≠ 0 → ¬ b = bt := fun b e e' => by
      rcases hnw b e with h1 | h1
      · exact unhide HBt b h1 e'
      · omega
    have kB : ButB (fun b => b = bt) (w6.alloc (.cells #[.slice (some ⟨g1, 0, none⟩) c6 k1] 52)) ((w6.alloc (.cells #[.slice (some ⟨g1, 0, none⟩) c6 k1] 52)).setCell ⟨bt, 2, none⟩ (.slice (some ⟨w6.heap.size, 0, none⟩) 1 1)) := ButB.set (S := fun b => b = bt) (ButB.refl _ _) (Or.inl rfl) _
    have hD8 := hD7.butB kB (fun g' e e' => by simp [Value.ownBlock] at e; omega) hlt
    have hT7 : TdS (w6.alloc (.cells #[.slice (some ⟨g1, 0, none⟩) c6 k1] 52)) (labG lab W.heap.size w6.heap.size I [(g1, k1, (dRowN bs p2 c6).1)]) B I ⟨t.nm, (c6 : Int), .slice (some ⟨w6.heap.size, 0, none⟩) 1 1, [(g1, k1, (dRowN bs p2 c6).1)]⟩ := by
      refine ⟨unhide HNm, by show (-1000 : Int) ≤ (c6 : Int); omega, by show (c6 : Int) ≤ 1000; omega, by simp, ?_, fun G e => ?_, fun r hr => ?_⟩
      · have hrv : rv (g1, k1, (dRowN bs p2 c6).1) = .slice (some ⟨g1, 0, none⟩) c6 k1 := by simp [rv, hxl]
        refine ⟨by simp, Or.inr ⟨w6.heap.size, 1, #[.slice (some ⟨g1, 0, none⟩) c6 k1], rfl, by omega, (MapKept.heap_alloc w6 _).1, by simp, by unfold maxLen; omega, by simp, ?_⟩⟩
        simp [hrv]
      · simp [Value.ownBlock] at e
        subst e
        unfold labG
        rw [if_neg (by omega), if_pos rfl]
      · simp only [List.mem_singleton] at hr
        subst hr
        refine ⟨?_, by show (dRowN bs p2 c6).1.length ≤ 40; omega, ho1.ownRow.rowT.butB (S := fun _ => False) (ButB.ofBelow (bA (Below.refl w6.heap.size w6) (.cells #[.slice (some ⟨g1, 0, none⟩) c6 k1] 52))) (fun e => e)⟩
        unfold labG
        simp only
        rw [if_neg (by omega), if_neg (by omega)]
        simp
    have hT8 := hT7.butB kB hlt
    have hll : ((labG lab W.heap.size w6.heap.size I [(g1, k1, (dRowN bs p2 c6).1)]) (w.heap.size + 1)).1 = 0 := by
      unfold labG
      rw [if_pos (by omega)]
      exact hl1
    have hL8 := ((bT2 ((unhide HL5).trans hd6.low) (bA (Below.refl w6.heap.size w6) (.cells #[.slice (some ⟨g1, 0, none⟩) c6 k1] 52))).setCell (p := ⟨bt, 2, none⟩) hRb (.slice (some ⟨w6.heap.size, 0, none⟩) 1 1))
    have HFin := hide (SpE.fin hD8 hd3 hI3 hT8 hL8 hR hRg hll n4)
    have HF := hide f8
    have y0 := f6.b2; have y1 := f6.bf; have y2 := f6.zb
    clear f6 f7 f8 hD6 hlz hnw hD7 hlt kB hD8 hT7 hT8 hll hL8 HF5 HD5 HL5 HNm HDR ho1 hr6 hd6 HBt hxl hsz
    go_upto_region 24 with fail
    rw [← World.setCell_alloc_past (.cells #[.slice (some ⟨g1, 0, none⟩) c6 k1] 52) bt 2 (.slice (some ⟨w6.heap.size, 0, none⟩) 1 1) y2]
    generalize ((w6.alloc (.cells #[.slice (some ⟨g1, 0, none⟩) c6 k1] 52)).setCell ⟨bt, 2, none⟩ (.slice (some ⟨w6.heap.size, 0, none⟩) 1 1)) = W5 at *
    clear e0 e1 e2 ef r0 r1 r2 b0 b1 b2 bf z0 z1 z2 z3
    obtain ⟨e0, e1, e2, ef, r0, r1, r2, b0, b1, b2, bf, zg, z0, zb⟩ := unhide HF
    rw [unhide HU] at e2
    have z3 : w.heap.size < W5.heap.size := by omega
    go_wp2
    refine bodyPost_ret (v := .agg #[.slice (some ⟨g, 0, none⟩) 3 vc]) (by simp [results, Tryz.results36, go_sem, r1]) rfl (unhide HFin)
  · have HFin : Hid (SpE w R B (.returned (.agg #[.slice none 0 0])) (W.setCell ⟨w.heap.size + 1, 0, none⟩ (.slice none 0 0))) :=
      ⟨_, _, [], rfl, DbS.nil _ _, (unhide HL3).setCell (p := ⟨w.heap.size + 1, 0, none⟩) (by show R ≤ w.heap.size + 1; omega) _⟩
    clear HF0 HBt HD3 HT3 HR3 HL3
    go_wp2
    refine bodyPost_ret (v := .agg #[.slice none 0 0]) (by simp [results, Tryz.results36, go_sem, r1]) rfl (unhide HFin)
end Go.Proofs.YtbbjhepagkkjeaaGreatDoor
