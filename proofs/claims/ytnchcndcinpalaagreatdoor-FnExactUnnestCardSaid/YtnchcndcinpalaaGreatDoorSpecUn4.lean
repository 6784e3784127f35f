import Derived.Test.YtnchcndcinpalaaGreatDoorQ14
import Derived.Test.YtnchcndcinpalaaGreatDoorQ15
namespace Go.Proofs.YtnchcndcinpalaaGreatDoor
open Go Go.RowKit
set_option maxRecDepth 100000 in
set_option maxHeartbeats 8000000 in
theorem U_4 (ts : List Tb) (ps : List Pn) (g cap gt capt : Nat) (w0 : World) (f i : Nat) (H : UHyp ts ps g cap gt capt w0 f i) (hi : i < ps.length) (hif : i ≤ f) (hK : (ps[i]).K = 4) (d w : Int) (out : List Fn) (G c : Nat) (cs : List Value) (lab : Lb) (W : World) (hw0 : 0 ≤ w) (hw : 0 ≤ wid ts ps i w) (hL : GrowL W lab w0.heap.size G c out.length cs out) (hB : Below w0.heap.size w0 W) (hlen : out.length + 2 * szP ps i ≤ 5000) :
    Calls Tryz.prog 44 #[.agg #[.slice (some ⟨g, 0, none⟩) ps.length cap], .agg #[.slice (some ⟨gt, 0, none⟩) ts.length capt], .int .i64 (i : Int), .int .i64 d, .int .i64 w, .slice (some ⟨G, 0, none⟩) out.length c] W (UPost ts ps w0 (f + 1) i d w out G lab W) := by
  have hp : ps[i]? = some ps[i] := List.getElem?_eq_getElem hi
  have _u := And.intro hif (And.intro hw0 hlen)
  clear _u
  obtain ⟨ii, hii, hz⟩ := Option.map_eq_some_iff.1 (show (Tryz.prog.info? 67).map (fun i => (i.zero, i.size, i.bytes)) = some (some (.agg #[.int .i64 0, .int .i64 0, .int .i64 0, .int .i64 0, .slice none 0 0, .slice none 0 0, .int .i64 0, .int .i64 0]), 8, 96) by kernel_rfl)
  simp only [Prod.mk.injEq] at hz
  obtain ⟨hz0, hz1, hz2⟩ := hz
  obtain ⟨e0, e1, e2, e5, e6, ⟨b3, e3, _, h3s, ho3⟩, b4, e4, _, h4s, ho4⟩ := H.base.hn.at i hi
  simp only [Nat.zero_add] at e0 e1 e2 e3 e4 e5 e6
  have hg0 := H.base.hg
  have c0 := (hB.cell (p := ⟨g, i * 7, none⟩) hg0).trans e0
  have c1 := (hB.cell (p := ⟨g, i * 7 + 1, none⟩) hg0).trans e1
  have c2 := (hB.cell (p := ⟨g, i * 7 + 2, none⟩) hg0).trans e2
  have c3 := (hB.cell (p := ⟨g, i * 7 + 3, none⟩) hg0).trans e3
  have c4 := (hB.cell (p := ⟨g, i * 7 + 4, none⟩) hg0).trans e4
  have c5 := (hB.cell (p := ⟨g, i * 7 + 5, none⟩) hg0).trans e5
  have c6 := (hB.cell (p := ⟨g, i * 7 + 6, none⟩) hg0).trans e6
  have q1 : g < W.heap.size := Nat.lt_of_lt_of_le hg0 hB.size
  have j1 : (i : Int) < (ps.length : Int) := by omega
  have hw2 := wid_w hw
  have hfew := H.base.few
  have hsp := szP_pos (ps := ps) i
  have hGl := hL.lt
  have hBs := hB.size
  clear e0 e1 e2 e3 e4 e5 e6
  obtain ⟨q, eL, eI, -, eS, eW⟩ := un_one H.base.good hi (arity_k.2.1 (by omega)) hw
  have hq : q < i := by omega
  have hqt : (ps[i]).L.toNat = q := by omega
  show Calls _ _ _ _ (UPostX w0 (uN ts ps (f + 1) i d w out).1 (uN ts ps (f + 1) i d w out).2 G lab W)
  rw [uN_4 hp hK, hqt]
  obtain ⟨r, a, hra⟩ : ∃ r a, uN ts ps f q d w out = (r, a) := ⟨_, _, rfl⟩
  have hrl := uN_len H.base.good f q (by omega) (by omega) d w out eW
  rw [hra] at hrl ⊢
  dsimp only at hrl ⊢
  have hr5 : r.length ≤ 5000 := by omega
  have HIH : Hid (∀ W1, GrowL W1 lab w0.heap.size G c out.length cs out → Below w0.heap.size w0 W1 → Calls Tryz.prog 44 #[.agg #[.slice (some ⟨g, 0, none⟩) ps.length cap], .agg #[.slice (some ⟨gt, 0, none⟩) ts.length capt], .int .i64 (q : Int), .int .i64 d, .int .i64 w, .slice (some ⟨G, 0, none⟩) out.length c] W1 (UPostX w0 r a G lab W1)) := fun W1 h1 h2 => by
    have h := H.ih q hq d w out G c cs lab W1 hw0 eW h1 h2 (by omega)
    unfold UPost at h
    rw [hra] at h
    exact h
  have HO3 := hide (fun W' (hb : Below w0.heap.size w0 W') => l4Copy_calls (ps[i]).Ex b3 0 (ps[i]).Ex.length W' (Nat.lt_of_lt_of_le h3s hb.size) (ho3.of h3s hb) (H.base.fit _ (List.getElem_mem hi)).1)
  obtain ⟨f1, f2, f3⟩ := H.base.fit _ (List.getElem_mem hi)
  have HO4 := hide (fun W' (hb : Below w0.heap.size w0 W') => l4CopyAll_calls (ps[i]).Exs b4 (ps[i]).Exs.length W' (Nat.lt_of_lt_of_le h4s hb.size) (ho4.of h4s hb) f2 f3)
  have HEx := hide (fun W' => l4Exs_calls w.toNat w (by omega) W' (by omega))
  obtain ⟨ie, hie, hy⟩ := Option.map_eq_some_iff.1 (show (Tryz.prog.info? 64).map (fun i => (i.zero, i.size, i.bytes)) = some (some (.slice none 0 0), 1, 24) by kernel_rfl)
  simp only [Prod.mk.injEq] at hy
  obtain ⟨hy0, hy1, hy2⟩ := hy
  generalize ps[i] = p at *
  obtain ⟨K, T, M, Ex, Exs, L, R⟩ := p
  simp only at c0 c1 c2 c3 c4 c5 c6 hK ho3 ho4 eL hqt HO4 f2 HO3
  subst hK eL
  clear H ho3 ho4 hw hp h4s hra eW hqt eS eI hi f1 f3
  go_enter Tryz.func44, Tryz.ntmps44
  go_upto_region 10 with fail
  have hb3 := bA (bA (bA (Below.refl W.heap.size W) (.cells #[.slice (some ⟨g, 0, none⟩) ps.length cap] 52)) (.cells #[.slice (some ⟨gt, 0, none⟩) ts.length capt] 38)) (.cells #[.int .i64 4, .int .i64 T, .int .i64 M, .slice (some ⟨b3, 0, none⟩) Ex.length Ex.length, .slice (some ⟨b4, 0, none⟩) Exs.length Exs.length, .int .i64 (q : Int), .int .i64 R] 130)
  obtain ⟨n0, n1, n2, n3, n4, n5, n6, pb0, db0, zs⟩ := (fun Q (hQ : (((W.alloc (.cells #[.slice (some ⟨g, 0, none⟩) ps.length cap] 52)).alloc (.cells #[.slice (some ⟨gt, 0, none⟩) ts.length capt] 38)).alloc (.cells #[.int .i64 4, .int .i64 T, .int .i64 M, .slice (some ⟨b3, 0, none⟩) Ex.length Ex.length, .slice (some ⟨b4, 0, none⟩) Exs.length Exs.length, .int .i64 (q : Int), .int .i64 R] 130)) = Q) => (by subst hQ; exact ⟨by simp [go_sem], by simp [go_sem], by simp [go_sem], by simp [go_sem], by simp [go_sem], by simp [go_sem], by simp [go_sem], by simp [go_sem], by simp [go_sem], by simp⟩ : Q.cell? ⟨W.heap.size + 1 + 1, 0, none⟩ = some (.int .i64 4) ∧ Q.cell? ⟨W.heap.size + 1 + 1, 1, none⟩ = some (.int .i64 T) ∧ Q.cell? ⟨W.heap.size + 1 + 1, 2, none⟩ = some (.int .i64 M) ∧ Q.cell? ⟨W.heap.size + 1 + 1, 3, none⟩ = some (.slice (some ⟨b3, 0, none⟩) Ex.length Ex.length) ∧ Q.cell? ⟨W.heap.size + 1 + 1, 4, none⟩ = some (.slice (some ⟨b4, 0, none⟩) Exs.length Exs.length) ∧ Q.cell? ⟨W.heap.size + 1 + 1, 5, none⟩ = some (.int .i64 (q : Int)) ∧ Q.cell? ⟨W.heap.size + 1 + 1, 6, none⟩ = some (.int .i64 R) ∧ Q.cell? ⟨W.heap.size, 0, none⟩ = some (.slice (some ⟨g, 0, none⟩) ps.length cap) ∧ Q.cell? ⟨W.heap.size + 1, 0, none⟩ = some (.slice (some ⟨gt, 0, none⟩) ts.length capt) ∧ Q.heap.size = W.heap.size + 3)) _ rfl
  have HLb := hide (hL.of hb3)
  have HBb := hide (hB.trans (hb3.mono hBs))
  have HB3 := hide hb3
  clear hL hb3 c0 c1 c2 c3 c4 c5 c6
  generalize (((W.alloc (.cells #[.slice (some ⟨g, 0, none⟩) ps.length cap] 52)).alloc (.cells #[.slice (some ⟨gt, 0, none⟩) ts.length capt] 38)).alloc (.cells #[.int .i64 4, .int .i64 T, .int .i64 M, .slice (some ⟨b3, 0, none⟩) Ex.length Ex.length, .slice (some ⟨b4, 0, none⟩) Exs.length Exs.length, .int .i64 (q : Int), .int .i64 R] 130)) = Wb at *
  obtain ⟨x0, hx0⟩ : ∃ x0, W.heap.size = x0 := ⟨_, rfl⟩
  have HX0 := hide hx0
  rw [hx0] at n0 n1 n2 n3 n4 n5 n6 pb0 db0 zs hBs hGl
  rw [hx0]
  clear hx0 q1
  have zs0 : x0 < Wb.heap.size := by omega
  have zs1 : x0 + 1 < Wb.heap.size := by omega
  have zs2 : x0 + 1 + 1 < Wb.heap.size := by omega
  clear zs
  go_wp2_with fail
  refine (unhide HIH Wb (unhide HLb) (unhide HBb)).mono ?_; rintro e w2 ⟨lab2, G2, k2, cs2, rfl, hL2, hl2, hBt2, hG2⟩
  replace n0 := (hBt2.cell (x0 + 1 + 1) 0 zs2 (by omega)).trans n0
  replace n1 := (hBt2.cell (x0 + 1 + 1) 1 zs2 (by omega)).trans n1
  replace n2 := (hBt2.cell (x0 + 1 + 1) 2 zs2 (by omega)).trans n2
  replace n3 := (hBt2.cell (x0 + 1 + 1) 3 zs2 (by omega)).trans n3
  replace n4 := (hBt2.cell (x0 + 1 + 1) 4 zs2 (by omega)).trans n4
  replace n5 := (hBt2.cell (x0 + 1 + 1) 5 zs2 (by omega)).trans n5
  replace n6 := (hBt2.cell (x0 + 1 + 1) 6 zs2 (by omega)).trans n6
  replace pb0 := (hBt2.cell x0 0 zs0 (by omega)).trans pb0
  replace db0 := (hBt2.cell (x0 + 1) 0 zs1 (by omega)).trans db0
  have HB2 := hide (hBt2.low (unhide HBb) hGl.2.1)
  have zb := hBt2.size
  have hG2' : G2 = G ∨ x0 + 3 ≤ G2 := hG2.imp id (fun e => by omega)
  have HLw2 : Hid (∀ x, x < x0 → lab2 x = lab x) := fun x hx => hl2 x (by omega)
  replace zs0 : x0 < w2.heap.size := by omega
  replace zs1 : x0 + 1 < w2.heap.size := by omega
  replace zs2 : x0 + 1 + 1 < w2.heap.size := by omega
  have x02 : x0 + 2 < w2.heap.size := by omega
  have hl2g := hL2.lt
  have HL2 := hide hL2
  have HBt2 : Hid (ButB (fun b => b = G) W w2) := (ButB.ofBelow (unhide HB3)).trans hBt2
  clear hL2 hl2 hBt2 hG2 HIH HLb HBb HB3
  go_wp2_with fail
  refine (unhide HO3 w2 (unhide HB2)).mono ?_; rintro e w3 ⟨u4, rfl, hu4, hb3⟩
  obtain ⟨ua, uc, rfl⟩ := hu4.slice
  replace n0 := (hb3.cell (p := ⟨x0 + 1 + 1, 0, none⟩) zs2).trans n0
  replace n1 := (hb3.cell (p := ⟨x0 + 1 + 1, 1, none⟩) zs2).trans n1
  replace n2 := (hb3.cell (p := ⟨x0 + 1 + 1, 2, none⟩) zs2).trans n2
  replace n3 := (hb3.cell (p := ⟨x0 + 1 + 1, 3, none⟩) zs2).trans n3
  replace n4 := (hb3.cell (p := ⟨x0 + 1 + 1, 4, none⟩) zs2).trans n4
  replace n5 := (hb3.cell (p := ⟨x0 + 1 + 1, 5, none⟩) zs2).trans n5
  replace n6 := (hb3.cell (p := ⟨x0 + 1 + 1, 6, none⟩) zs2).trans n6
  replace pb0 := (hb3.cell (p := ⟨x0, 0, none⟩) zs0).trans pb0
  replace db0 := (hb3.cell (p := ⟨x0 + 1, 0, none⟩) zs1).trans db0
  have y23 := hb3.size
  replace zs0 : x0 < w3.heap.size := by omega
  replace zs1 : x0 + 1 < w3.heap.size := by omega
  replace zs2 : x0 + 1 + 1 < w3.heap.size := by omega
  have HU4 := hide (hu4.mono (T := fun b => w2.heap.size ≤ b ∧ b < w3.heap.size) (fun b hb e => ⟨e, hb⟩))
  have HL3 := hide ((unhide HL2).of hb3)
  have HB23 := hide hb3
  have HFr : Hid (Free lab2 w2.heap.size w3.heap.size) := (unhide HL2).free
  clear hu4 hb3 HO3 HL2
  go_upto_region 16 with fail
  have hx4 := bA (Below.refl w3.heap.size w3) (.cells #[.int .i64 4, .int .i64 0, .int .i64 0, .int .i64 0, .slice ua Ex.length uc, .slice none 0 0, .int .i64 a, .int .i64 0] 67)
  replace n0 := (hx4.cell (p := ⟨x0 + 1 + 1, 0, none⟩) zs2).trans n0
  replace n1 := (hx4.cell (p := ⟨x0 + 1 + 1, 1, none⟩) zs2).trans n1
  replace n2 := (hx4.cell (p := ⟨x0 + 1 + 1, 2, none⟩) zs2).trans n2
  replace n3 := (hx4.cell (p := ⟨x0 + 1 + 1, 3, none⟩) zs2).trans n3
  replace n4 := (hx4.cell (p := ⟨x0 + 1 + 1, 4, none⟩) zs2).trans n4
  replace n5 := (hx4.cell (p := ⟨x0 + 1 + 1, 5, none⟩) zs2).trans n5
  replace n6 := (hx4.cell (p := ⟨x0 + 1 + 1, 6, none⟩) zs2).trans n6
  replace pb0 := (hx4.cell (p := ⟨x0, 0, none⟩) zs0).trans pb0
  replace db0 := (hx4.cell (p := ⟨x0 + 1, 0, none⟩) zs1).trans db0
  obtain ⟨q0, q1, q2, q3, q4, q5, q6, q7⟩ := (fun Q (hQ : (w3.alloc (.cells #[.int .i64 4, .int .i64 0, .int .i64 0, .int .i64 0, .slice ua Ex.length uc, .slice none 0 0, .int .i64 a, .int .i64 0] 67)) = Q) => (by subst hQ; exact ⟨by simp [go_sem], by simp [go_sem], by simp [go_sem], by simp [go_sem], by simp [go_sem], by simp [go_sem], by simp [go_sem], by simp [go_sem]⟩ : Q.cell? ⟨w3.heap.size, 0, none⟩ = some (.int .i64 4) ∧ Q.cell? ⟨w3.heap.size, 1, none⟩ = some (.int .i64 0) ∧ Q.cell? ⟨w3.heap.size, 2, none⟩ = some (.int .i64 0) ∧ Q.cell? ⟨w3.heap.size, 3, none⟩ = some (.int .i64 0) ∧ Q.cell? ⟨w3.heap.size, 4, none⟩ = some (.slice ua Ex.length uc) ∧ Q.cell? ⟨w3.heap.size, 5, none⟩ = some (.slice none 0 0) ∧ Q.cell? ⟨w3.heap.size, 6, none⟩ = some (.int .i64 a) ∧ Q.cell? ⟨w3.heap.size, 7, none⟩ = some (.int .i64 0))) _ rfl
  have HQf : Hid (∀ o, (w3.alloc (.cells #[.int .i64 4, .int .i64 0, .int .i64 0, .int .i64 0, .slice ua Ex.length uc, .slice none 0 0, .int .i64 a, .int .i64 0] 67)).frozen? ⟨w3.heap.size, o, none⟩ = false) := fun o => by simp [go_sem]
  have m0 : (w3.alloc (.cells #[.int .i64 4, .int .i64 0, .int .i64 0, .int .i64 0, .slice ua Ex.length uc, .slice none 0 0, .int .i64 a, .int .i64 0] 67)).heap.size = w3.heap.size + 1 := by simp
  have HLx : Hid (¬ (lab2 w3.heap.size).1 ≤ 2) := fun h => by have := (unhide HL3).rng _ h; omega
  have HL3x : Hid (∀ b, (lab2 b).1 ≤ 2 → b < w3.heap.size) := fun b h => ((unhide HL3).rng b h).2.1
  have HL4 := hide ((unhide HL3).of hx4)
  have HU4' := hide ((unhide HU4).of hx4)
  have HB4 := hide (((unhide HB2).trans ((unhide HB23).mono (by have := (unhide HB2).size; omega))).trans (hx4.mono (by have := (unhide HB2).size; omega)))
  have HX4 : Hid (ButB (fun b => b = G) W (w3.alloc (.cells #[.int .i64 4, .int .i64 0, .int .i64 0, .int .i64 0, .slice ua Ex.length uc, .slice none 0 0, .int .i64 a, .int .i64 0] 67))) := (unhide HBt2).trans (ButB.ofBelow (bT (unhide HB23) hx4))
  clear hx4 HL3 HU4 HB23 HBt2 HB2
  generalize (w3.alloc (.cells #[.int .i64 4, .int .i64 0, .int .i64 0, .int .i64 0, .slice ua Ex.length uc, .slice none 0 0, .int .i64 a, .int .i64 0] 67)) = w4 at *
  have xq : w3.heap.size < w4.heap.size := by omega
  replace zs0 : x0 < w4.heap.size := by omega
  replace zs1 : x0 + 1 < w4.heap.size := by omega
  replace zs2 : x0 + 1 + 1 < w4.heap.size := by omega
  have HM0 := hide m0
  clear m0
  obtain ⟨X, hX⟩ : ∃ X, w3.heap.size = X := ⟨_, rfl⟩
  rw [hX] at q0 q1 q2 q3 q4 q5 q6 q7 HQf xq y23 HFr HU4' HM0 HLx HL3x
  rw [hX]
  clear hX
  refine wp_region_held_drew (S := fun W' => W'.cell? ⟨x0 + 1 + 1, 4, none⟩ = some (.slice (some ⟨b4, 0, none⟩) Exs.length Exs.length) ∧ W'.cell? ⟨x0 + 1 + 1, 4, none⟩ = some (.slice (some ⟨b4, 0, none⟩) Exs.length Exs.length)) (by kernel_rfl) ⟨n4, n4⟩ (fun hHeld => ?_)
  refine tW 0 74 (.int .i64 w) ?_
  simp only [puts]
  refine tW 2 76 (.pointer (some ⟨x0 + 1 + 1, 4, none⟩)) ?_
  simp only [puts]
  refine tW 3 77 (.slice (some ⟨b4, 0, none⟩) Exs.length Exs.length) ?_
  simp only [puts]
  refine wpAnyH_ready (rs := [1]) (by kernel_rfl) (by simp) ?_
  refine AllReadyH.cons rfl (fun Kx hK => ?_) AllReadyH.nil
  go_simp
  refine (unhide HEx _).mono ?_
  rintro e wa ⟨Ga, ca, lba, hsa, rfl, hGa, hba⟩
  have hba' : Below w4.heap.size w4 wa := bT (Below.drew (Below.refl _ _)) hba
  have ga : w4.heap.size ≤ Ga := hGa.own.lt.2.1
  have ga2 := hGa.own.lt.1
  have na4 := (hba'.cell (p := ⟨x0 + 1 + 1, 4, none⟩) zs2).trans n4
  refine hK.out _ _ ⟨na4, na4⟩ (fun hHeld2 => ?_)
  clear hK Kx hHeld hba
  refine wpAnyH_ready (rs := [4]) (by kernel_rfl) (by simp) ?_
  refine AllReadyH.cons rfl (fun Kx hK => ?_) AllReadyH.nil
  go_simp
  refine (unhide HO4 wa ((unhide HB4).trans (hba'.mono (unhide HB4).size))).mono ?_
  rintro e wc ⟨Gc, cc, lbc, hsc, rfl, hGc, hbc⟩
  have gc : wa.heap.size ≤ Gc := hGc.own.lt.2.1
  have zc := hbc.size
  have za := hba'.size
  have nc4 := (hbc.cell (p := ⟨x0 + 1 + 1, 4, none⟩) (by dsimp only; omega)).trans na4
  refine hK.out _ _ ⟨nc4, nc4⟩ (fun hHeld3 => ?_)
  clear hK Kx hHeld2
  have hd4 := bT hba' hbc
  have la : hsa.length = w.toNat := by rw [hGa.len, colExs_length]
  have lc : hsc.length = Exs.length := hGc.len
  have HGa := hide hGa; have HGc := hide hGc
  have own1 : wc.ownsRow w4.heap.size 64 1 (.slice (some ⟨Ga, 0, none⟩) w.toNat ca) w.toNat hsa := by
    have h' := (hGa.of hbc).own
    unfold OwnH at h'
    rw [la] at h'
    exact h'
  have one2 : ∀ u ∈ hsc, u.oneCell' = true := fun u hu => by
    obtain ⟨jj, hjj, rfl⟩ := List.mem_iff_getElem.1 hu
    obtain ⟨ya, yc, hy⟩ := (hGc.each jj _ _ (List.getElem?_eq_getElem hjj) (List.getElem?_eq_getElem (by omega))).slice
    rw [hy]; rfl
  refine wpAnyH_ready (rs := [5]) (by kernel_rfl) (by simp) ?_
  refine AllReadyH.cons rfl (fun Kx hK => ?_) AllReadyH.nil
  refine step_append_any rfl (.tmp 75) (.tmp 78) 65 rfl w4.heap.size 64 ie _ 24 Tryz.underlying65 hie hy0 hy1 hy2 rfl Ga w.toNat ca hsa rfl own1 Gc Exs.length cc hsc rfl lc hGc.own.grid one2 (by unfold maxLen; omega) (by omega) (by omega) ?_
  intro GE kE w7 hownE hgrE hatE
  have hO5 := join2 (s := w4.heap.size) (G := Ga) (lbx := fun b => if b < wa.heap.size then lba b else w.toNat + lbc b) (hs1 := hsa) (hs2 := hsc) (o1 := colExs w.toNat) (o2 := Exs) la lc (colExs_length _) rfl ga (by omega)
    (fun i u xs h1 h2 => (((unhide HGa).each i u xs h1 h2).mono (T := fun b => w4.heap.size ≤ b ∧ b ≠ Ga ∧ b < wc.heap.size ∧ (if b < wa.heap.size then lba b else w.toNat + lbc b) = i) (fun b hb e => ⟨e.1, e.2.1, by omega, by rw [if_pos hb]; exact e.2.2⟩)).of hbc)
    (fun i u xs h1 h2 => ((unhide HGc).each i u xs h1 h2).mono (fun b hb e => ⟨by have := e.1; omega, by have := e.1; omega, hb, by rw [if_neg (by have := e.1; omega), e.2.2]⟩)) hownE hgrE hatE
  have hBE : ButB (fun b => b = Ga) wc w7 := ButB.grown hgrE (fun b e => by simpa using e.symm)
  have zE := hBE.size
  have nE4 := (hBE.cell (x0 + 1 + 1) 4 (by omega) (by omega)).trans nc4
  replace q0 := (hBE.cell X 0 (by omega) (by omega)).trans ((hd4.cell (p := ⟨X, 0, none⟩) xq).trans q0)
  replace q1 := (hBE.cell X 1 (by omega) (by omega)).trans ((hd4.cell (p := ⟨X, 1, none⟩) xq).trans q1)
  replace q2 := (hBE.cell X 2 (by omega) (by omega)).trans ((hd4.cell (p := ⟨X, 2, none⟩) xq).trans q2)
  replace q3 := (hBE.cell X 3 (by omega) (by omega)).trans ((hd4.cell (p := ⟨X, 3, none⟩) xq).trans q3)
  replace q4 := (hBE.cell X 4 (by omega) (by omega)).trans ((hd4.cell (p := ⟨X, 4, none⟩) xq).trans q4)
  replace q5 := (hBE.cell X 5 (by omega) (by omega)).trans ((hd4.cell (p := ⟨X, 5, none⟩) xq).trans q5)
  replace q6 := (hBE.cell X 6 (by omega) (by omega)).trans ((hd4.cell (p := ⟨X, 6, none⟩) xq).trans q6)
  replace q7 := (hBE.cell X 7 (by omega) (by omega)).trans ((hd4.cell (p := ⟨X, 7, none⟩) xq).trans q7)
  have qf : ∀ o, w7.frozen? ⟨X, o, none⟩ = false := fun o => (hBE.frz X o (by omega) (by omega)).trans ((hd4.frozen (p := ⟨X, o, none⟩) xq).trans (unhide HQf o))
  have HL7 := hide (((unhide HL4).of hd4).butB hBE (by omega) (fun b h e => by have := ((unhide HL3x) b h); omega))
  have HU7 := hide (((unhide HU4').of hd4).butB hBE (fun b e => by omega))
  have HO5 := hide hO5
  have HBt7 : Hid (ButB (fun b => b = G) W w7) := ((unhide HX4).trans (ButB.ofBelow hd4)).trans' hBE (fun b e => by subst e; exact Or.inr (by rw [unhide HX0]; omega))
  have gE : GE = Ga ∨ wc.heap.size ≤ GE := hatE.imp id (fun e => by omega)
  refine hK.out _ _ ⟨nE4, nE4⟩ (fun hHeld4 => ?_)
  clear hK Kx hHeld3 own1 one2 hownE hgrE hatE hO5 hBE hd4 hba' hbc hGa hGc HGa HGc
  refine takeW 6 80 (.pointer (some ⟨X, 5, none⟩)) rfl rfl (by kernel_rfl) (by kernel_rfl) (by kernel_rfl) (fun _ _ _ h => h) rfl (fun wx hSw => by obtain ⟨hs1, hs2⟩ := hSw; go_simp) (by assumption) ?_
  refine wpAnyH_ready (rs := [7]) (by kernel_rfl) (by simp) ?_
  refine AllReadyH.cons rfl (fun Kx hK => ?_) AllReadyH.nil
  go_simp
  refine hK.out _ _ ⟨?_, ?_⟩ (fun hHeld5 => ?_)
  · exact (setCell_farN (by omega)).trans nE4
  · exact (setCell_farN (by omega)).trans nE4
  clear hK Kx
  refine wpAnyH_done (by kernel_rfl) ?_ _
  clear hHeld4 hHeld5
  go_upto_region 37 with fail
  have hBx : ButB (fun b => b = X) w7 (w7.setCell ⟨X, 5, none⟩ (.slice (some ⟨GE, 0, none⟩) (w.toNat + Exs.length) kE)) := ButB.set (S := fun b => b = X) (ButB.refl _ _) (Or.inl rfl) _
  obtain ⟨t0, t1, t2, t3, t4, t5, t6, t7⟩ := (fun Q (hQ : (w7.setCell ⟨X, 5, none⟩ (.slice (some ⟨GE, 0, none⟩) (w.toNat + Exs.length) kE)) = Q) => (by subst hQ; exact ⟨(setCell_otherN (by omega)).trans q0, (setCell_otherN (by omega)).trans q1, (setCell_otherN (by omega)).trans q2, (setCell_otherN (by omega)).trans q3, (setCell_otherN (by omega)).trans q4, World.cell?_setCell_same _ _ _ q5, (setCell_otherN (by omega)).trans q6, (setCell_otherN (by omega)).trans q7⟩ : Q.cell? ⟨X, 0, none⟩ = some (.int .i64 4) ∧ Q.cell? ⟨X, 1, none⟩ = some (.int .i64 0) ∧ Q.cell? ⟨X, 2, none⟩ = some (.int .i64 0) ∧ Q.cell? ⟨X, 3, none⟩ = some (.int .i64 0) ∧ Q.cell? ⟨X, 4, none⟩ = some (.slice ua Ex.length uc) ∧ Q.cell? ⟨X, 5, none⟩ = some (.slice (some ⟨GE, 0, none⟩) (w.toNat + Exs.length) kE) ∧ Q.cell? ⟨X, 6, none⟩ = some (.int .i64 a) ∧ Q.cell? ⟨X, 7, none⟩ = some (.int .i64 0))) _ rfl
  have HL8 := hide (((unhide HL7).butB hBx (by omega) (fun b h e => by subst e; exact unhide HLx h)))
  have HU8 := hide ((unhide HU7).butB hBx (fun b e => by omega))
  have HO8 := hide ((unhide HO5).butB hBx (fun b e => by omega) (fun _ b e => by omega))
  have HBt8 : Hid (ButB (fun b => b = G) W (w7.setCell ⟨X, 5, none⟩ (.slice (some ⟨GE, 0, none⟩) (w.toNat + Exs.length) kE))) := (unhide HBt7).trans' hBx (fun b e => by subst e; exact Or.inr (by rw [unhide HX0]; omega))
  have s8 : (w7.setCell ⟨X, 5, none⟩ (.slice (some ⟨GE, 0, none⟩) (w.toNat + Exs.length) kE)).heap.size = w7.heap.size := by simp
  clear hBx HL7 HU7 HO5 HBt7 n0 n1 n2 n3 n4 n5 n6 q0 q1 q2 q3 q4 q5 q6 q7 qf pb0 db0 zs0 zs1 zs2 nE4 na4 nc4
  generalize (w7.setCell ⟨X, 5, none⟩ (.slice (some ⟨GE, 0, none⟩) (w.toNat + Exs.length) kE)) = w8 at *
  have xq8 : X < w8.heap.size := by omega
  have HS8 := hide s8
  clear s8
  have HL9 := hide ((unhide HL8).of (bA (Below.refl _ _) (.cells #[.int .i64 4, .int .i64 0, .int .i64 0, .int .i64 0, .slice ua Ex.length uc, .slice (some ⟨GE, 0, none⟩) (w.toNat + Exs.length) kE, .int .i64 a, .int .i64 0] 67)))
  have HU9 := hide ((unhide HU8).of (bA (Below.refl _ _) (.cells #[.int .i64 4, .int .i64 0, .int .i64 0, .int .i64 0, .slice ua Ex.length uc, .slice (some ⟨GE, 0, none⟩) (w.toNat + Exs.length) kE, .int .i64 a, .int .i64 0] 67)))
  have HO9 := hide (((unhide HO8).mono (To := fun b => w4.heap.size ≤ b ∧ b < w8.heap.size ∧ b = GE) (Ti := fun i b => w4.heap.size ≤ b ∧ b < w8.heap.size ∧ b ≠ GE ∧ (if b < wa.heap.size then lba b else w.toNat + lbc b) = i) (fun b hb e => ⟨e.1, hb, e.2⟩) (fun i b hb e => ⟨e.1, hb, e.2⟩)).of (bA (Below.refl _ _) (.cells #[.int .i64 4, .int .i64 0, .int .i64 0, .int .i64 0, .slice ua Ex.length uc, .slice (some ⟨GE, 0, none⟩) (w.toNat + Exs.length) kE, .int .i64 a, .int .i64 0] 67)))
  clear HL8 HU8 HO8
  have HNw : Hid (∀ j u, ([.int .i64 4, .int .i64 0, .int .i64 0, .int .i64 0, .slice ua Ex.length uc, .slice (some ⟨GE, 0, none⟩) (w.toNat + Exs.length) kE, .int .i64 a, .int .i64 0] : List Value)[j]? = some u → (w8.alloc (.cells #[.int .i64 4, .int .i64 0, .int .i64 0, .int .i64 0, .slice ua Ex.length uc, .slice (some ⟨GE, 0, none⟩) (w.toNat + Exs.length) kE, .int .i64 a, .int .i64 0] 67)).cell? ((⟨w8.heap.size, 0, none⟩ : Addr).add j) = some u) := World.news_of_block (cs := #[.int .i64 4, .int .i64 0, .int .i64 0, .int .i64 0, .slice ua Ex.length uc, .slice (some ⟨GE, 0, none⟩) (w.toNat + Exs.length) kE, .int .i64 a, .int .i64 0]) (MapKept.heap_alloc w8 _).1
  go_wp2_with (at_builtin; refine wpList_append_lies _ rfl (.tmp 155) (.tmp 157) 30 rfl w0.heap.size 67 ii _ 8 96 Tryz.underlying30 hii hz0 hz1 hz2 rfl (by decide) (.slice (some ⟨G2, 0, none⟩) (r.length) k2) (r.length) cs2 rfl (unhide HL9).own ⟨w8.heap.size, 0, none⟩ 1 1 [.int .i64 4, .int .i64 0, .int .i64 0, .int .i64 0, .slice ua Ex.length uc, .slice (some ⟨GE, 0, none⟩) (w.toNat + Exs.length) kE, .int .i64 a, .int .i64 0] rfl rfl (unhide HNw) (by intro u hu; simp at hu; rcases hu with rfl | rfl | rfl | rfl | rfl | rfl | rfl | rfl <;> rfl) (by decide) (by unfold maxLen; omega) (by omega) (by (try simp); omega) _ rfl ?_; intro G3 k3 w9 hown3 hgr3 hat3 hlt3)
  have hat3' : G3 = G2 ∨ G3 = (w8.alloc (.cells #[.int .i64 4, .int .i64 0, .int .i64 0, .int .i64 0, .slice ua Ex.length uc, .slice (some ⟨GE, 0, none⟩) (w.toNat + Exs.length) kE, .int .i64 a, .int .i64 0] 67)).heap.size := hat3.imp (fun e => by simpa [Value.ownBlock] using e.symm) (fun e => e)
  have s8 := unhide HS8
  have m0 := unhide HM0
  have HLf := hide ((unhide HL9).push (p := ⟨4, 0, 0, 0, Ex, colExs w.toNat ++ Exs, a, 0⟩) (a1 := w2.heap.size) (a2 := X) (a3 := w4.heap.size) (a4 := w8.heap.size) (G5 := GE) (lb := fun b => if b < wa.heap.size then lba b else w.toNat + lbc b) (unhide HFr) (fun x h1 _ h3 => by have := unhide HL3x x h3; omega) (fun _ => ⟨by omega, by simp; omega, by omega⟩) (fun _ => ⟨by omega, by simp, by omega⟩) (fun _ _ => Or.inl (by omega)) (unhide HU9) (unhide HO9) hown3 hgr3 hat3')
  have HBt9 : Hid (ButB (fun b => b = G) W w9) := ((unhide HBt8).trans (ButB.ofBelow (bA (Below.refl _ _) _))).trans' (ButB.grown (S := fun b => b = G2) hgr3 (fun b e => by simpa [Value.ownBlock] using e.symm)) (fun b e => by subst e; rw [unhide HX0]; exact hG2'.imp id (fun h => by omega))
  have hG3 : G3 = G ∨ x0 ≤ G3 := by
    rcases hat3' with e | e
    · rw [e]; exact hG2'.imp id (fun h => by omega)
    · exact Or.inr (by rw [e]; simp; omega)
  have HLw9 : Hid (∀ x, x < x0 → labP lab2 r.length w2.heap.size X w4.heap.size w8.heap.size GE (fun b => if b < wa.heap.size then lba b else w.toNat + lbc b) x = lab x) := fun x hx => (labP_low (s := x0) (fun _ => by omega) (fun _ => by omega) x hx).trans (unhide HLw2 x hx)
  clear hown3 hgr3 hat3 hat3' HL9 HNw HU9 HO9 HS8 s8 t0 t1 t2 t3 t4 t5 t6 t7 m0
  go_wp2
  go_ret2
  have hlr : (r ++ [(⟨4, 0, 0, 0, Ex, colExs w.toNat ++ Exs, a, 0⟩ : Fn)]).length = r.length + 1 := by simp
  exact ⟨_, G3, k3, _, by rw [hlr]; first | rfl | simp [go_sem], by rw [hlr]; exact unhide HLf, by rw [unhide HX0]; exact unhide HLw9, unhide HBt9, by rw [unhide HX0]; exact hG3⟩
end Go.Proofs.YtnchcndcinpalaaGreatDoor
