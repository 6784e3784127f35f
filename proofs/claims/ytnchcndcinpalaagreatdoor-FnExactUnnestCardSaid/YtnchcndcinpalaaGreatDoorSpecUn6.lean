import Derived.Test.YtnchcndcinpalaaGreatDoorQ14
namespace Go.Proofs.YtnchcndcinpalaaGreatDoor
open Go Go.RowKit
set_option maxRecDepth 100000 in
set_option maxHeartbeats 8000000 in
theorem U_6 (ts : List Tb) (ps : List Pn) (g cap gt capt : Nat) (w0 : World) (f i : Nat) (H : UHyp ts ps g cap gt capt w0 f i) (hi : i < ps.length) (hif : i ≤ f) (hK : (ps[i]).K = 6) (d w : Int) (out : List Fn) (G c : Nat) (cs : List Value) (lab : Lb) (W : World) (hw0 : 0 ≤ w) (hw : 0 ≤ wid ts ps i w) (hL : GrowL W lab w0.heap.size G c out.length cs out) (hB : Below w0.heap.size w0 W) (hlen : out.length + 2 * szP ps i ≤ 5000) :
    Calls Tryz.prog 44 #[.agg #[.slice (some ⟨g, 0, none⟩) ps.length cap], .agg #[.slice (some ⟨gt, 0, none⟩) ts.length capt], .int .i64 (i : Int), .int .i64 d, .int .i64 w, .slice (some ⟨G, 0, none⟩) out.length c] W (UPost ts ps w0 (f + 1) i d w out G lab W) := by
  have hp : ps[i]? = some ps[i] := List.getElem?_eq_getElem hi
  have _u := And.intro hif (And.intro hw0 hlen)
  clear _u
  obtain ⟨ii, hii, hz⟩ := Option.map_eq_some_iff.1 (show (Tryz.prog.info? 67).map (fun i => (i.zero, i.size, i.bytes)) = some (some (.agg #[.int .i64 0, .int .i64 0, .int .i64 0, .int .i64 0, .slice none 0 0, .slice none 0 0, .int .i64 0, .int .i64 0]), 8, 96) by kernel_rfl)
  simp only [Prod.mk.injEq] at hz
  obtain ⟨hz0, hz1, hz2⟩ := hz
  obtain ⟨e0, e1, e2, e5, e6, ⟨b3, e3, _, h3s, ho3⟩, b4, e4, _, h4s, ho4⟩ := H.base.hn.at i hi
  simp only [Nat.zero_add] at e0 e1 e2 e3 e4 e5 e6
  have hg0 := H.base.hg
  have c0 := (hB.cell (p := ⟨g, i * 7, none⟩) hg0).trans e0
  have c1 := (hB.cell (p := ⟨g, i * 7 + 1, none⟩) hg0).trans e1
  have c2 := (hB.cell (p := ⟨g, i * 7 + 2, none⟩) hg0).trans e2
  have c3 := (hB.cell (p := ⟨g, i * 7 + 3, none⟩) hg0).trans e3
  have c4 := (hB.cell (p := ⟨g, i * 7 + 4, none⟩) hg0).trans e4
  have c5 := (hB.cell (p := ⟨g, i * 7 + 5, none⟩) hg0).trans e5
  have c6 := (hB.cell (p := ⟨g, i * 7 + 6, none⟩) hg0).trans e6
  have q1 : g < W.heap.size := Nat.lt_of_lt_of_le hg0 hB.size
  have j1 : (i : Int) < (ps.length : Int) := by omega
  have hw2 := wid_w hw
  have hfew := H.base.few
  have hsp := szP_pos (ps := ps) i
  have hGl := hL.lt
  have hBs := hB.size
  clear e0 e1 e2 e3 e4 e5 e6
  obtain ⟨q, j, eL, eR, eI, eQ, -, -, eS, eW, eWi, eWj⟩ := un_two H.base.good hi (arity_k.1 (by omega)) hw
  have hq : q < i := by omega
  have hj : j < i := by omega
  have hqt : (ps[i]).L.toNat = q := by omega
  have hjt : (ps[i]).R.toNat = j := by omega
  rw [insideW_dep (by omega)] at eWj
  have hin := wid_w eWj
  have hwq := (wid_range ts ps q w).2 eW
  show Calls _ _ _ _ (UPostX w0 (uN ts ps (f + 1) i d w out).1 (uN ts ps (f + 1) i d w out).2 G lab W)
  obtain ⟨r, a, hra⟩ : ∃ r a, uN ts ps f q d w out = (r, a) := ⟨_, _, rfl⟩
  have hrl := uN_len H.base.good f q (by omega) (by omega) d w out eW
  rw [hra] at hrl
  dsimp only at hrl
  rw [uN_6 (r := r) (a := a) hp (by omega) (by rw [hqt]; exact hra), hqt, hjt]
  obtain ⟨r2, a2, hra2⟩ : ∃ r2 a2, uN ts ps f j (r.length : Int) (w + iw ts ps q) (r ++ [⟨8, 0, 0, 0, [], [], a, 0⟩]) = (r2, a2) := ⟨_, _, rfl⟩
  have hrl2 := uN_len H.base.good f j (by omega) (by omega) (r.length : Int) (w + iw ts ps q) (r ++ [⟨8, 0, 0, 0, [], [], a, 0⟩]) eWj
  rw [hra2] at hrl2 ⊢
  dsimp only at hrl2 ⊢
  have hr5 : r.length ≤ 5000 := by omega
  have hr6 : r2.length ≤ 5000 := by simp at hrl2; omega
  have HIH : Hid (∀ W1, GrowL W1 lab w0.heap.size G c out.length cs out → Below w0.heap.size w0 W1 → Calls Tryz.prog 44 #[.agg #[.slice (some ⟨g, 0, none⟩) ps.length cap], .agg #[.slice (some ⟨gt, 0, none⟩) ts.length capt], .int .i64 (q : Int), .int .i64 d, .int .i64 w, .slice (some ⟨G, 0, none⟩) out.length c] W1 (UPostX w0 r a G lab W1)) := fun W1 h1 h2 => by
    have h := H.ih q hq d w out G c cs lab W1 hw0 eW h1 h2 (by omega)
    unfold UPost at h
    rw [hra] at h
    exact h
  have HI2 : Hid (∀ W1 G1 c1 cs1 lab1, GrowL W1 lab1 w0.heap.size G1 c1 (r.length + 1) cs1 (r ++ [⟨8, 0, 0, 0, [], [], a, 0⟩]) → Below w0.heap.size w0 W1 → Calls Tryz.prog 44 #[.agg #[.slice (some ⟨g, 0, none⟩) ps.length cap], .agg #[.slice (some ⟨gt, 0, none⟩) ts.length capt], .int .i64 (j : Int), .int .i64 (r.length : Int), .int .i64 (w + iw ts ps q), .slice (some ⟨G1, 0, none⟩) (r.length + 1) c1] W1 (UPostX w0 r2 a2 G1 lab1 W1)) := fun W1 G1 c1 cs1 lab1 h1 h2 => by
    have hl1 : (r ++ [(⟨8, 0, 0, 0, [], [], a, 0⟩ : Fn)]).length = r.length + 1 := by simp
    have h := H.ih j hj (r.length : Int) (w + iw ts ps q) (r ++ [⟨8, 0, 0, 0, [], [], a, 0⟩]) G1 c1 cs1 lab1 W1 (by omega) eWj (by rw [hl1]; exact h1) h2 (by rw [hl1]; omega)
    unfold UPost at h
    rw [hra2, hl1] at h
    exact h
  have HO3 := hide (fun W' (hb : Below w0.heap.size w0 W') => l4Copy_calls (ps[i]).Ex b3 0 (ps[i]).Ex.length W' (Nat.lt_of_lt_of_le h3s hb.size) (ho3.of h3s hb) (H.base.fit _ (List.getElem_mem hi)).1)
  have HWd := hide (fun W' (hb : Below w0.heap.size w0 W') => l3Width_calls ts ps g cap gt capt (by omega) H.base.lt H.base.fit H.base.cols (q + 1) q (by omega) (by omega) (H.base.good.frm (by omega)) w hw0 hw2 W' (Nat.lt_of_lt_of_le H.base.hg hb.size) (H.base.hn.of H.base.hg hb) (Nat.lt_of_lt_of_le H.base.hgt hb.size) (H.base.ht.of H.base.hgt hb))
  rw [eWi] at HWd
  have hiw0 : 0 ≤ iw ts ps q := by omega
  have hiw1 : w + iw ts ps q ≤ 200 := by omega
  generalize ps[i] = p at *
  obtain ⟨K, T, M, Ex, Exs, L, R⟩ := p
  simp only at c0 c1 c2 c3 c4 c5 c6 hK ho3 ho4 eL eR hqt hjt HO3 ⊢
  subst hK eL eR
  clear H ho3 ho4 hw hp h4s hra hra2 eW eWj eWi hqt hjt eS eI eQ hi hrl hrl2 hwq
  go_enter Tryz.func44, Tryz.ntmps44
  go_upto_region 10 with fail
  have hb3 := bA (bA (bA (Below.refl W.heap.size W) (.cells #[.slice (some ⟨g, 0, none⟩) ps.length cap] 52)) (.cells #[.slice (some ⟨gt, 0, none⟩) ts.length capt] 38)) (.cells #[.int .i64 6, .int .i64 T, .int .i64 M, .slice (some ⟨b3, 0, none⟩) Ex.length Ex.length, .slice (some ⟨b4, 0, none⟩) Exs.length Exs.length, .int .i64 (q : Int), .int .i64 (j : Int)] 130)
  obtain ⟨n0, n1, n2, n3, n4, n5, n6, pb0, db0, zs⟩ := (fun Q (hQ : (((W.alloc (.cells #[.slice (some ⟨g, 0, none⟩) ps.length cap] 52)).alloc (.cells #[.slice (some ⟨gt, 0, none⟩) ts.length capt] 38)).alloc (.cells #[.int .i64 6, .int .i64 T, .int .i64 M, .slice (some ⟨b3, 0, none⟩) Ex.length Ex.length, .slice (some ⟨b4, 0, none⟩) Exs.length Exs.length, .int .i64 (q : Int), .int .i64 (j : Int)] 130)) = Q) => (by subst hQ; exact ⟨by simp [go_sem], by simp [go_sem], by simp [go_sem], by simp [go_sem], by simp [go_sem], by simp [go_sem], by simp [go_sem], by simp [go_sem], by simp [go_sem], by simp⟩ : Q.cell? ⟨W.heap.size + 1 + 1, 0, none⟩ = some (.int .i64 6) ∧ Q.cell? ⟨W.heap.size + 1 + 1, 1, none⟩ = some (.int .i64 T) ∧ Q.cell? ⟨W.heap.size + 1 + 1, 2, none⟩ = some (.int .i64 M) ∧ Q.cell? ⟨W.heap.size + 1 + 1, 3, none⟩ = some (.slice (some ⟨b3, 0, none⟩) Ex.length Ex.length) ∧ Q.cell? ⟨W.heap.size + 1 + 1, 4, none⟩ = some (.slice (some ⟨b4, 0, none⟩) Exs.length Exs.length) ∧ Q.cell? ⟨W.heap.size + 1 + 1, 5, none⟩ = some (.int .i64 (q : Int)) ∧ Q.cell? ⟨W.heap.size + 1 + 1, 6, none⟩ = some (.int .i64 (j : Int)) ∧ Q.cell? ⟨W.heap.size, 0, none⟩ = some (.slice (some ⟨g, 0, none⟩) ps.length cap) ∧ Q.cell? ⟨W.heap.size + 1, 0, none⟩ = some (.slice (some ⟨gt, 0, none⟩) ts.length capt) ∧ Q.heap.size = W.heap.size + 3)) _ rfl
  have HLb := hide (hL.of hb3)
  have HBb := hide (hB.trans (hb3.mono hBs))
  have HB3 := hide hb3
  clear hL hb3 c0 c1 c2 c3 c4 c5 c6
  generalize (((W.alloc (.cells #[.slice (some ⟨g, 0, none⟩) ps.length cap] 52)).alloc (.cells #[.slice (some ⟨gt, 0, none⟩) ts.length capt] 38)).alloc (.cells #[.int .i64 6, .int .i64 T, .int .i64 M, .slice (some ⟨b3, 0, none⟩) Ex.length Ex.length, .slice (some ⟨b4, 0, none⟩) Exs.length Exs.length, .int .i64 (q : Int), .int .i64 (j : Int)] 130)) = Wb at *
  obtain ⟨x0, hx0⟩ : ∃ x0, W.heap.size = x0 := ⟨_, rfl⟩
  have HX0 := hide hx0
  rw [hx0] at n0 n1 n2 n3 n4 n5 n6 pb0 db0 zs hBs hGl
  rw [hx0]
  clear hx0 q1
  have zs0 : x0 < Wb.heap.size := by omega
  have zs1 : x0 + 1 < Wb.heap.size := by omega
  have zs2 : x0 + 1 + 1 < Wb.heap.size := by omega
  clear zs
  go_wp2_with fail
  refine (unhide HIH Wb (unhide HLb) (unhide HBb)).mono ?_; rintro e w2 ⟨lab2, G2, k2, cs2, rfl, hL2, hl2, hBt2, hG2⟩
  replace n0 := (hBt2.cell (x0 + 1 + 1) 0 zs2 (by omega)).trans n0
  replace n1 := (hBt2.cell (x0 + 1 + 1) 1 zs2 (by omega)).trans n1
  replace n2 := (hBt2.cell (x0 + 1 + 1) 2 zs2 (by omega)).trans n2
  replace n3 := (hBt2.cell (x0 + 1 + 1) 3 zs2 (by omega)).trans n3
  replace n4 := (hBt2.cell (x0 + 1 + 1) 4 zs2 (by omega)).trans n4
  replace n5 := (hBt2.cell (x0 + 1 + 1) 5 zs2 (by omega)).trans n5
  replace n6 := (hBt2.cell (x0 + 1 + 1) 6 zs2 (by omega)).trans n6
  replace pb0 := (hBt2.cell x0 0 zs0 (by omega)).trans pb0
  replace db0 := (hBt2.cell (x0 + 1) 0 zs1 (by omega)).trans db0
  have HB2 := hide (hBt2.low (unhide HBb) hGl.2.1)
  have zb := hBt2.size
  have hG2' : G2 = G ∨ x0 + 3 ≤ G2 := hG2.imp id (fun e => by omega)
  have HLw2 : Hid (∀ x, x < x0 → lab2 x = lab x) := fun x hx => hl2 x (by omega)
  replace zs0 : x0 < w2.heap.size := by omega
  replace zs1 : x0 + 1 < w2.heap.size := by omega
  replace zs2 : x0 + 1 + 1 < w2.heap.size := by omega
  have x02 : x0 + 2 < w2.heap.size := by omega
  have hl2g := hL2.lt
  have HL2 := hide hL2
  have HBt2 : Hid (ButB (fun b => b = G) W w2) := (ButB.ofBelow (unhide HB3)).trans hBt2
  clear hL2 hl2 hBt2 hG2 HIH HLb HBb HB3
  go_wp2_with fail
  refine (unhide HO3 w2 (unhide HB2)).mono ?_; rintro e w3 ⟨u4, rfl, hu4, hb3⟩
  obtain ⟨ua, uc, rfl⟩ := hu4.slice
  replace n0 := (hb3.cell (p := ⟨x0 + 1 + 1, 0, none⟩) zs2).trans n0
  replace n1 := (hb3.cell (p := ⟨x0 + 1 + 1, 1, none⟩) zs2).trans n1
  replace n2 := (hb3.cell (p := ⟨x0 + 1 + 1, 2, none⟩) zs2).trans n2
  replace n3 := (hb3.cell (p := ⟨x0 + 1 + 1, 3, none⟩) zs2).trans n3
  replace n4 := (hb3.cell (p := ⟨x0 + 1 + 1, 4, none⟩) zs2).trans n4
  replace n5 := (hb3.cell (p := ⟨x0 + 1 + 1, 5, none⟩) zs2).trans n5
  replace n6 := (hb3.cell (p := ⟨x0 + 1 + 1, 6, none⟩) zs2).trans n6
  replace pb0 := (hb3.cell (p := ⟨x0, 0, none⟩) zs0).trans pb0
  replace db0 := (hb3.cell (p := ⟨x0 + 1, 0, none⟩) zs1).trans db0
  have y23 := hb3.size
  replace zs0 : x0 < w3.heap.size := by omega
  replace zs1 : x0 + 1 < w3.heap.size := by omega
  replace zs2 : x0 + 1 + 1 < w3.heap.size := by omega
  have HU4 := hide (hu4.mono (T := fun b => w2.heap.size ≤ b ∧ b < w3.heap.size) (fun b hb e => ⟨e, hb⟩))
  have HL3 := hide ((unhide HL2).of hb3)
  have HB23 := hide hb3
  have HFr : Hid (Free lab2 w2.heap.size w3.heap.size) := (unhide HL2).free
  clear hu4 hb3 HO3 HL2
  go_upto_region 26 with fail
  have hx4 := bA (Below.refl w3.heap.size w3) (.cells #[.int .i64 0, .int .i64 0, .int .i64 0, .int .i64 0, .slice ua Ex.length uc, .slice none 0 0, .int .i64 a, .int .i64 0] 67)
  replace n0 := (hx4.cell (p := ⟨x0 + 1 + 1, 0, none⟩) zs2).trans n0
  replace n1 := (hx4.cell (p := ⟨x0 + 1 + 1, 1, none⟩) zs2).trans n1
  replace n2 := (hx4.cell (p := ⟨x0 + 1 + 1, 2, none⟩) zs2).trans n2
  replace n3 := (hx4.cell (p := ⟨x0 + 1 + 1, 3, none⟩) zs2).trans n3
  replace n4 := (hx4.cell (p := ⟨x0 + 1 + 1, 4, none⟩) zs2).trans n4
  replace n5 := (hx4.cell (p := ⟨x0 + 1 + 1, 5, none⟩) zs2).trans n5
  replace n6 := (hx4.cell (p := ⟨x0 + 1 + 1, 6, none⟩) zs2).trans n6
  replace pb0 := (hx4.cell (p := ⟨x0, 0, none⟩) zs0).trans pb0
  replace db0 := (hx4.cell (p := ⟨x0 + 1, 0, none⟩) zs1).trans db0
  obtain ⟨q0, q1, q2, q3, q4, q5, q6, q7⟩ := (fun Q (hQ : (w3.alloc (.cells #[.int .i64 0, .int .i64 0, .int .i64 0, .int .i64 0, .slice ua Ex.length uc, .slice none 0 0, .int .i64 a, .int .i64 0] 67)) = Q) => (by subst hQ; exact ⟨by simp [go_sem], by simp [go_sem], by simp [go_sem], by simp [go_sem], by simp [go_sem], by simp [go_sem], by simp [go_sem], by simp [go_sem]⟩ : Q.cell? ⟨w3.heap.size, 0, none⟩ = some (.int .i64 0) ∧ Q.cell? ⟨w3.heap.size, 1, none⟩ = some (.int .i64 0) ∧ Q.cell? ⟨w3.heap.size, 2, none⟩ = some (.int .i64 0) ∧ Q.cell? ⟨w3.heap.size, 3, none⟩ = some (.int .i64 0) ∧ Q.cell? ⟨w3.heap.size, 4, none⟩ = some (.slice ua Ex.length uc) ∧ Q.cell? ⟨w3.heap.size, 5, none⟩ = some (.slice none 0 0) ∧ Q.cell? ⟨w3.heap.size, 6, none⟩ = some (.int .i64 a) ∧ Q.cell? ⟨w3.heap.size, 7, none⟩ = some (.int .i64 0))) _ rfl
  have HQf : Hid (∀ o, (w3.alloc (.cells #[.int .i64 0, .int .i64 0, .int .i64 0, .int .i64 0, .slice ua Ex.length uc, .slice none 0 0, .int .i64 a, .int .i64 0] 67)).frozen? ⟨w3.heap.size, o, none⟩ = false) := fun o => by simp [go_sem]
  have m0 : (w3.alloc (.cells #[.int .i64 0, .int .i64 0, .int .i64 0, .int .i64 0, .slice ua Ex.length uc, .slice none 0 0, .int .i64 a, .int .i64 0] 67)).heap.size = w3.heap.size + 1 := by simp
  have HLx : Hid (¬ (lab2 w3.heap.size).1 ≤ 2) := fun h => by have := (unhide HL3).rng _ h; omega
  have HL3x : Hid (∀ b, (lab2 b).1 ≤ 2 → b < w3.heap.size) := fun b h => ((unhide HL3).rng b h).2.1
  have HL4 := hide ((unhide HL3).of hx4)
  have HU4' := hide ((unhide HU4).of hx4)
  have HB4 := hide (((unhide HB2).trans ((unhide HB23).mono (by have := (unhide HB2).size; omega))).trans (hx4.mono (by have := (unhide HB2).size; omega)))
  have HX4 : Hid (ButB (fun b => b = G) W (w3.alloc (.cells #[.int .i64 0, .int .i64 0, .int .i64 0, .int .i64 0, .slice ua Ex.length uc, .slice none 0 0, .int .i64 a, .int .i64 0] 67))) := (unhide HBt2).trans (ButB.ofBelow (bT (unhide HB23) hx4))
  clear hx4 HL3 HU4 HB23 HBt2 HB2
  generalize (w3.alloc (.cells #[.int .i64 0, .int .i64 0, .int .i64 0, .int .i64 0, .slice ua Ex.length uc, .slice none 0 0, .int .i64 a, .int .i64 0] 67)) = w4 at *
  have xq : w3.heap.size < w4.heap.size := by omega
  replace zs0 : x0 < w4.heap.size := by omega
  replace zs1 : x0 + 1 < w4.heap.size := by omega
  replace zs2 : x0 + 1 + 1 < w4.heap.size := by omega
  have HM0 := hide m0
  clear m0
  obtain ⟨X, hX⟩ : ∃ X, w3.heap.size = X := ⟨_, rfl⟩
  rw [hX] at q0 q1 q2 q3 q4 q5 q6 q7 HQf xq y23 HFr HU4' HM0 HLx HL3x
  rw [hX]
  clear hX
  have hGX : G2 < X := by omega
  have HLe := hide ((unhide HL4).of (bA (Below.refl _ _) (.cells #[.int .i64 8, .int .i64 0, .int .i64 0, .int .i64 0, .slice none 0 0, .slice none 0 0, .int .i64 a, .int .i64 0] 67)))
  have HNw : Hid (∀ j u, ([.int .i64 8, .int .i64 0, .int .i64 0, .int .i64 0, .slice none 0 0, .slice none 0 0, .int .i64 a, .int .i64 0] : List Value)[j]? = some u → (w4.alloc (.cells #[.int .i64 8, .int .i64 0, .int .i64 0, .int .i64 0, .slice none 0 0, .slice none 0 0, .int .i64 a, .int .i64 0] 67)).cell? ((⟨w4.heap.size, 0, none⟩ : Addr).add j) = some u) := World.news_of_block (cs := #[.int .i64 8, .int .i64 0, .int .i64 0, .int .i64 0, .slice none 0 0, .slice none 0 0, .int .i64 a, .int .i64 0]) (MapKept.heap_alloc w4 _).1
  go_upto_region 27 with (at_builtin; refine wpList_append_lies _ rfl (.tmp 113) (.tmp 116) 30 rfl w0.heap.size 67 ii _ 8 96 Tryz.underlying30 hii hz0 hz1 hz2 rfl (by decide) (.slice (some ⟨G2, 0, none⟩) (r.length) k2) (r.length) cs2 rfl (unhide HLe).own ⟨w4.heap.size, 0, none⟩ 1 1 [.int .i64 8, .int .i64 0, .int .i64 0, .int .i64 0, .slice none 0 0, .slice none 0 0, .int .i64 a, .int .i64 0] rfl rfl (unhide HNw) (by intro u hu; simp at hu; rcases hu with rfl | rfl | rfl | rfl | rfl | rfl | rfl | rfl <;> rfl) (by decide) (by unfold maxLen; omega) (by omega) (by (try simp); omega) _ rfl ?_; intro Gd kd wd hownd hgrd hatd hltd)
  have hatd' : Gd = G2 ∨ Gd = (w4.alloc (.cells #[.int .i64 8, .int .i64 0, .int .i64 0, .int .i64 0, .slice none 0 0, .slice none 0 0, .int .i64 a, .int .i64 0] 67)).heap.size := hatd.imp (fun e => by simpa [Value.ownBlock] using e.symm) (fun e => e)
  have hgd0 : Gd = G2 ∨ w4.heap.size ≤ Gd := hatd'.imp id (fun e => by rw [e]; simp)
  have hGd4 : Gd < w2.heap.size ∨ X < Gd := by omega
  have hGd5 : Gd = G ∨ x0 + 3 ≤ Gd := by omega
  have HLd := hide ((unhide HLe).push0 (p := ⟨8, 0, 0, 0, [], [], a, 0⟩) rfl rfl ⟨_, _, rfl⟩ ⟨_, _, rfl⟩ hownd hgrd hatd')
  have hBd : ButB (fun b => b = G2) w4 wd := (ButB.ofBelow (bA (Below.refl _ _) _)).trans (ButB.grown hgrd (fun b e => by simpa [Value.ownBlock] using e.symm))
  replace n0 := (hBd.cell (x0 + 1 + 1) 0 zs2 (by omega)).trans n0
  replace n1 := (hBd.cell (x0 + 1 + 1) 1 zs2 (by omega)).trans n1
  replace n2 := (hBd.cell (x0 + 1 + 1) 2 zs2 (by omega)).trans n2
  replace n3 := (hBd.cell (x0 + 1 + 1) 3 zs2 (by omega)).trans n3
  replace n4 := (hBd.cell (x0 + 1 + 1) 4 zs2 (by omega)).trans n4
  replace n5 := (hBd.cell (x0 + 1 + 1) 5 zs2 (by omega)).trans n5
  replace n6 := (hBd.cell (x0 + 1 + 1) 6 zs2 (by omega)).trans n6
  replace q0 := (hBd.cell X 0 xq (by omega)).trans q0
  replace q1 := (hBd.cell X 1 xq (by omega)).trans q1
  replace q2 := (hBd.cell X 2 xq (by omega)).trans q2
  replace q3 := (hBd.cell X 3 xq (by omega)).trans q3
  replace q4 := (hBd.cell X 4 xq (by omega)).trans q4
  replace q5 := (hBd.cell X 5 xq (by omega)).trans q5
  replace q6 := (hBd.cell X 6 xq (by omega)).trans q6
  replace q7 := (hBd.cell X 7 xq (by omega)).trans q7
  replace pb0 := (hBd.cell x0 0 zs0 (by omega)).trans pb0
  replace db0 := (hBd.cell (x0 + 1) 0 zs1 (by omega)).trans db0
  replace HQf := hide (fun o => (hBd.frz X o xq (by omega)).trans (unhide HQf o))
  replace HU4' := hide ((unhide HU4').butB hBd (fun b e => by omega))
  have zd := hBd.size
  have HBd := hide (hBd.low (unhide HB4) hl2g.2.1)
  replace HX4 : Hid (ButB (fun b => b = G) W wd) := (unhide HX4).trans' hBd (fun b e => by subst e; rw [unhide HX0]; exact hG2'.imp id (fun h => by omega))
  replace xq : X < wd.heap.size := by omega
  replace zs0 : x0 < wd.heap.size := by omega
  replace zs1 : x0 + 1 < wd.heap.size := by omega
  replace zs2 : x0 + 1 + 1 < wd.heap.size := by omega
  clear hownd hgrd hatd hatd' HLe HNw hBd HL4 HB4
  generalize (cs2 ++ vFn ⟨8, 0, 0, 0, [], [], a, 0⟩ (.slice none 0 0) (.slice none 0 0)) = csd at *
  go_wp2_with fail
  refine (unhide HWd wd (unhide HBd)).mono ?_; rintro e we ⟨rfl, hbw⟩
  replace n0 := (hbw.cell (p := ⟨x0 + 1 + 1, 0, none⟩) zs2).trans n0
  replace n1 := (hbw.cell (p := ⟨x0 + 1 + 1, 1, none⟩) zs2).trans n1
  replace n2 := (hbw.cell (p := ⟨x0 + 1 + 1, 2, none⟩) zs2).trans n2
  replace n3 := (hbw.cell (p := ⟨x0 + 1 + 1, 3, none⟩) zs2).trans n3
  replace n4 := (hbw.cell (p := ⟨x0 + 1 + 1, 4, none⟩) zs2).trans n4
  replace n5 := (hbw.cell (p := ⟨x0 + 1 + 1, 5, none⟩) zs2).trans n5
  replace n6 := (hbw.cell (p := ⟨x0 + 1 + 1, 6, none⟩) zs2).trans n6
  replace q0 := (hbw.cell (p := ⟨X, 0, none⟩) xq).trans q0
  replace q1 := (hbw.cell (p := ⟨X, 1, none⟩) xq).trans q1
  replace q2 := (hbw.cell (p := ⟨X, 2, none⟩) xq).trans q2
  replace q3 := (hbw.cell (p := ⟨X, 3, none⟩) xq).trans q3
  replace q4 := (hbw.cell (p := ⟨X, 4, none⟩) xq).trans q4
  replace q5 := (hbw.cell (p := ⟨X, 5, none⟩) xq).trans q5
  replace q6 := (hbw.cell (p := ⟨X, 6, none⟩) xq).trans q6
  replace q7 := (hbw.cell (p := ⟨X, 7, none⟩) xq).trans q7
  replace pb0 := (hbw.cell (p := ⟨x0, 0, none⟩) zs0).trans pb0
  replace db0 := (hbw.cell (p := ⟨x0 + 1, 0, none⟩) zs1).trans db0
  replace HQf := hide (fun o => (hbw.frozen (p := ⟨X, o, none⟩) xq).trans (unhide HQf o))
  replace HU4' := hide ((unhide HU4').of hbw)
  have HL4 := hide ((unhide HLd).of hbw)
  have HB4 := hide ((unhide HBd).trans (hbw.mono (unhide HBd).size))
  replace HX4 : Hid (ButB (fun b => b = G) W we) := (unhide HX4).trans (ButB.ofBelow hbw)
  have zw := hbw.size
  replace xq : X < we.heap.size := by omega
  replace zs0 : x0 < we.heap.size := by omega
  replace zs1 : x0 + 1 < we.heap.size := by omega
  replace zs2 : x0 + 1 + 1 < we.heap.size := by omega
  clear hbw HLd HBd HWd
  generalize iw ts ps q = lw at *
  have hGc : Gd = G ∨ x0 ≤ Gd := by omega
  go_wp2_with fail
  refine (unhide HI2 we Gd kd csd lab2 (unhide HL4) (unhide HB4)).mono ?_; rintro e w5 ⟨lab5, G5, k5, cs5, rfl, hL5, hl5, hBt5, hG5⟩
  replace n0 := (hBt5.cell (x0 + 1 + 1) 0 zs2 (by omega)).trans n0
  replace n1 := (hBt5.cell (x0 + 1 + 1) 1 zs2 (by omega)).trans n1
  replace n2 := (hBt5.cell (x0 + 1 + 1) 2 zs2 (by omega)).trans n2
  replace n3 := (hBt5.cell (x0 + 1 + 1) 3 zs2 (by omega)).trans n3
  replace n4 := (hBt5.cell (x0 + 1 + 1) 4 zs2 (by omega)).trans n4
  replace n5 := (hBt5.cell (x0 + 1 + 1) 5 zs2 (by omega)).trans n5
  replace n6 := (hBt5.cell (x0 + 1 + 1) 6 zs2 (by omega)).trans n6
  replace q0 := (hBt5.cell X 0 xq (by omega)).trans q0
  replace q1 := (hBt5.cell X 1 xq (by omega)).trans q1
  replace q2 := (hBt5.cell X 2 xq (by omega)).trans q2
  replace q3 := (hBt5.cell X 3 xq (by omega)).trans q3
  replace q4 := (hBt5.cell X 4 xq (by omega)).trans q4
  replace q5 := (hBt5.cell X 5 xq (by omega)).trans q5
  replace q6 := (hBt5.cell X 6 xq (by omega)).trans q6
  replace q7 := (hBt5.cell X 7 xq (by omega)).trans q7
  have qf : ∀ o, w5.frozen? ⟨X, o, none⟩ = false := fun o => (hBt5.frz X o xq (by omega)).trans (unhide HQf o)
  have z5 := hBt5.size
  have hl5g := hL5.lt
  have hG5' : G5 = Gd ∨ X < G5 := hG5.imp id (fun e => by omega)
  have HL5 := hide hL5
  have HU5 := hide ((unhide HU4').butB hBt5 (fun b e => by omega))
  have HFr5 : Hid (Free lab5 w2.heap.size X) := (unhide HFr).keep (s := we.heap.size) (by omega) hl5
  have HX5 : Hid (¬ (lab5 X).1 ≤ 2) := by
    rw [hl5 X xq]
    exact unhide HLx
  have HLw5 : Hid (∀ x, x < x0 → lab5 x = lab x) := fun x hx => (hl5 x (by omega)).trans (unhide HLw2 x hx)
  have HBt5 : Hid (ButB (fun b => b = G) W w5) := (unhide HX4).trans' hBt5 (fun b e => by subst e; rw [unhide HX0]; exact hGc)
  have xq5 : X < w5.heap.size := by omega
  clear hL5 hl5 hBt5 hG5 HI2 HL4 HB4 HU4' HFr HQf HX4
  go_upto_region 37 with fail
  have hBx : ButB (fun b => b = X) w5 ((((w5.setCell ⟨X, 7, none⟩ (.int .i64 a2)).setCell ⟨X, 3, none⟩ (.int .i64 (w + lw))).setCell ⟨X, 2, none⟩ (.int .i64 M)).setCell ⟨X, 0, none⟩ (.int .i64 5)) := (ButB.set (S := fun b => b = X) (ButB.set (S := fun b => b = X) (ButB.set (S := fun b => b = X) (ButB.set (S := fun b => b = X) (ButB.refl _ _) (Or.inl rfl) _) (Or.inl rfl) _) (Or.inl rfl) _) (Or.inl rfl) _)
  obtain ⟨t0, t1, t2, t3, t4, t5, t6, t7⟩ := (fun Q (hQ : ((((w5.setCell ⟨X, 7, none⟩ (.int .i64 a2)).setCell ⟨X, 3, none⟩ (.int .i64 (w + lw))).setCell ⟨X, 2, none⟩ (.int .i64 M)).setCell ⟨X, 0, none⟩ (.int .i64 5)) = Q) => (by subst hQ; exact ⟨World.cell?_setCell_same _ _ _ ((setCell_otherN (by omega)).trans ((setCell_otherN (by omega)).trans ((setCell_otherN (by omega)).trans (q0)))), (setCell_otherN (by omega)).trans ((setCell_otherN (by omega)).trans ((setCell_otherN (by omega)).trans ((setCell_otherN (by omega)).trans (q1)))), (setCell_otherN (by omega)).trans (World.cell?_setCell_same _ _ _ ((setCell_otherN (by omega)).trans ((setCell_otherN (by omega)).trans (q2)))), (setCell_otherN (by omega)).trans ((setCell_otherN (by omega)).trans (World.cell?_setCell_same _ _ _ ((setCell_otherN (by omega)).trans (q3)))), (setCell_otherN (by omega)).trans ((setCell_otherN (by omega)).trans ((setCell_otherN (by omega)).trans ((setCell_otherN (by omega)).trans (q4)))), (setCell_otherN (by omega)).trans ((setCell_otherN (by omega)).trans ((setCell_otherN (by omega)).trans ((setCell_otherN (by omega)).trans (q5)))), (setCell_otherN (by omega)).trans ((setCell_otherN (by omega)).trans ((setCell_otherN (by omega)).trans ((setCell_otherN (by omega)).trans (q6)))), (setCell_otherN (by omega)).trans ((setCell_otherN (by omega)).trans ((setCell_otherN (by omega)).trans (World.cell?_setCell_same _ _ _ (q7))))⟩ : Q.cell? ⟨X, 0, none⟩ = some (.int .i64 5) ∧ Q.cell? ⟨X, 1, none⟩ = some (.int .i64 0) ∧ Q.cell? ⟨X, 2, none⟩ = some (.int .i64 M) ∧ Q.cell? ⟨X, 3, none⟩ = some (.int .i64 (w + lw)) ∧ Q.cell? ⟨X, 4, none⟩ = some (.slice ua Ex.length uc) ∧ Q.cell? ⟨X, 5, none⟩ = some (.slice none 0 0) ∧ Q.cell? ⟨X, 6, none⟩ = some (.int .i64 a) ∧ Q.cell? ⟨X, 7, none⟩ = some (.int .i64 a2))) _ rfl
  have HL6 := hide ((unhide HL5).butB hBx (by omega) (fun b h e => by subst e; exact unhide HX5 h))
  have HU6 := hide ((unhide HU5).butB hBx (fun b e => by omega))
  have HBt6 : Hid (ButB (fun b => b = G) W ((((w5.setCell ⟨X, 7, none⟩ (.int .i64 a2)).setCell ⟨X, 3, none⟩ (.int .i64 (w + lw))).setCell ⟨X, 2, none⟩ (.int .i64 M)).setCell ⟨X, 0, none⟩ (.int .i64 5))) := (unhide HBt5).trans' hBx (fun b e => by subst e; exact Or.inr (by rw [unhide HX0]; omega))
  have s6 : ((((w5.setCell ⟨X, 7, none⟩ (.int .i64 a2)).setCell ⟨X, 3, none⟩ (.int .i64 (w + lw))).setCell ⟨X, 2, none⟩ (.int .i64 M)).setCell ⟨X, 0, none⟩ (.int .i64 5)).heap.size = w5.heap.size := by simp
  clear hBx HL5 HU5 HBt5 n0 n1 n2 n3 n4 n5 n6 q0 q1 q2 q3 q4 q5 q6 q7 qf pb0 db0 zs0 zs1 zs2 HX5
  generalize ((((w5.setCell ⟨X, 7, none⟩ (.int .i64 a2)).setCell ⟨X, 3, none⟩ (.int .i64 (w + lw))).setCell ⟨X, 2, none⟩ (.int .i64 M)).setCell ⟨X, 0, none⟩ (.int .i64 5)) = w6 at *
  have xq6 : X < w6.heap.size := by omega
  have HS6 := hide s6
  clear s6
  have HL7 := hide ((unhide HL6).of (bA (Below.refl _ _) (.cells #[.int .i64 5, .int .i64 0, .int .i64 M, .int .i64 (w + lw), .slice ua Ex.length uc, .slice none 0 0, .int .i64 a, .int .i64 a2] 67)))
  have HU7 := hide ((unhide HU6).of (bA (Below.refl _ _) (.cells #[.int .i64 5, .int .i64 0, .int .i64 M, .int .i64 (w + lw), .slice ua Ex.length uc, .slice none 0 0, .int .i64 a, .int .i64 a2] 67)))
  clear HL6 HU6
  have HNw : Hid (∀ j u, ([.int .i64 5, .int .i64 0, .int .i64 M, .int .i64 (w + lw), .slice ua Ex.length uc, .slice none 0 0, .int .i64 a, .int .i64 a2] : List Value)[j]? = some u → (w6.alloc (.cells #[.int .i64 5, .int .i64 0, .int .i64 M, .int .i64 (w + lw), .slice ua Ex.length uc, .slice none 0 0, .int .i64 a, .int .i64 a2] 67)).cell? ((⟨w6.heap.size, 0, none⟩ : Addr).add j) = some u) := World.news_of_block (cs := #[.int .i64 5, .int .i64 0, .int .i64 M, .int .i64 (w + lw), .slice ua Ex.length uc, .slice none 0 0, .int .i64 a, .int .i64 a2]) (MapKept.heap_alloc w6 _).1
  go_wp2_with (at_builtin; refine wpList_append_lies _ rfl (.tmp 155) (.tmp 157) 30 rfl w0.heap.size 67 ii _ 8 96 Tryz.underlying30 hii hz0 hz1 hz2 rfl (by decide) (.slice (some ⟨G5, 0, none⟩) (r2.length) k5) (r2.length) cs5 rfl (unhide HL7).own ⟨w6.heap.size, 0, none⟩ 1 1 [.int .i64 5, .int .i64 0, .int .i64 M, .int .i64 (w + lw), .slice ua Ex.length uc, .slice none 0 0, .int .i64 a, .int .i64 a2] rfl rfl (unhide HNw) (by intro u hu; simp at hu; rcases hu with rfl | rfl | rfl | rfl | rfl | rfl | rfl | rfl <;> rfl) (by decide) (by unfold maxLen; omega) (by omega) (by (try simp); omega) _ rfl ?_; intro G3 k3 w7 hown3 hgr3 hat3 hlt3)
  have hat3' : G3 = G5 ∨ G3 = (w6.alloc (.cells #[.int .i64 5, .int .i64 0, .int .i64 M, .int .i64 (w + lw), .slice ua Ex.length uc, .slice none 0 0, .int .i64 a, .int .i64 a2] 67)).heap.size := hat3.imp (fun e => by simpa [Value.ownBlock] using e.symm) (fun e => e)
  have s6 := unhide HS6
  have HL8 := hide ((unhide HL7).push (p := ⟨5, 0, M, w + lw, Ex, [], a, a2⟩) (a1 := w2.heap.size) (a2 := X) (a3 := 0) (a4 := 0) (G5 := 0) (lb := fun _ => 0) (unhide HFr5) (fun x _ h2 => by omega) (fun _ => ⟨by omega, by simp; omega, by omega⟩) (fun h => by omega) (fun _ h => by omega) (unhide HU7) (Or.inl ⟨rfl, _, _, rfl⟩) hown3 hgr3 hat3')
  have HBt8 : Hid (ButB (fun b => b = G) W w7) := ((unhide HBt6).trans (ButB.ofBelow (bA (Below.refl _ _) _))).trans' (ButB.grown (S := fun b => b = G5) hgr3 (fun b e => by simpa [Value.ownBlock] using e.symm)) (fun b e => by subst e; rw [unhide HX0]; omega)
  have hG3 : G3 = G ∨ x0 ≤ G3 := by
    rcases hat3' with e | e
    · omega
    · exact Or.inr (by rw [e]; simp; omega)
  have HLw8 : Hid (∀ x, x < x0 → labP lab5 r2.length w2.heap.size X 0 0 0 (fun _ => 0) x = lab x) := fun x hx => (labP_low (s := x0) (fun _ => by omega) (fun h => by omega) x hx).trans (unhide HLw5 x hx)
  clear hown3 hgr3 hat3 hat3' HL7 HNw HU7 HS6 s6 t0 t1 t2 t3 t4 t5 t6 t7
  go_wp2
  go_ret2
  have hlr : (r2 ++ [(⟨5, 0, M, w + lw, Ex, [], a, a2⟩ : Fn)]).length = r2.length + 1 := by simp
  exact ⟨_, G3, k3, _, by rw [hlr]; first | rfl | simp [go_sem], by rw [hlr]; exact unhide HL8, by rw [unhide HX0]; exact unhide HLw8, unhide HBt8, by rw [unhide HX0]; exact hG3⟩
end Go.Proofs.YtnchcndcinpalaaGreatDoor
