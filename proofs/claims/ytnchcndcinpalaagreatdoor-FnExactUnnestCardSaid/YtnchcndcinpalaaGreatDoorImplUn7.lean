import Derived.Test.YtnchcndcinpalaaGreatDoorQ33
namespace Go.Proofs.YtnchcndcinpalaaGreatDoor
open Go Go.RowKit
set_option maxRecDepth 100000 in
set_option maxHeartbeats 8000000 in
theorem I_7 (ts : List Tb) (ps : List Pn) (g cap bw U : Nat) (w0 : World) (f i : Nat) (H : IHyp ts ps g cap bw U w0 f i) (hi : i < ps.length) (hif : i ≤ f) (hK : (ps[i]).K = 7) (d w : Int) (out : List Fn) (G c : Nat) (cs : List Value) (lab : Lb) (W : World) (hw0 : 0 ≤ w) (hw : 0 ≤ wid ts ps i w) (hU : UBox W U (.slice (some ⟨g, 0, none⟩) ps.length cap) (.slice (some ⟨bw, 0, none⟩) ps.length ps.length) (.slice (some ⟨G, 0, none⟩) out.length c)) (hL : GrowL W lab (U + 1) G c out.length cs out) (hB : Below w0.heap.size w0 W) (hlen : out.length + 2 * szP ps i ≤ 5000) :
    Calls Tryz.prog 48 #[.pointer (some ⟨U, 0, none⟩), .int .i64 (i : Int), .int .i64 d, .int .i64 w] W (IPost ts ps U (.slice (some ⟨g, 0, none⟩) ps.length cap) (.slice (some ⟨bw, 0, none⟩) ps.length ps.length) (f + 1) i d w out G lab W) := by
  have hp : ps[i]? = some ps[i] := List.getElem?_eq_getElem hi
  have _u := And.intro hif (And.intro hw0 hlen)
  clear _u
  obtain ⟨e0, e1, e2, e5, e6, ⟨b3, e3, _, h3s, ho3⟩, b4, e4, _, h4s, ho4⟩ := H.base.hn.at i hi
  simp only [Nat.zero_add] at e0 e1 e2 e3 e4 e5 e6
  have hg0 := H.base.hg
  have c0 := (hB.cell (p := ⟨g, i * 7, none⟩) hg0).trans e0
  have c1 := (hB.cell (p := ⟨g, i * 7 + 1, none⟩) hg0).trans e1
  have c2 := (hB.cell (p := ⟨g, i * 7 + 2, none⟩) hg0).trans e2
  have c3 := (hB.cell (p := ⟨g, i * 7 + 3, none⟩) hg0).trans e3
  have c4 := (hB.cell (p := ⟨g, i * 7 + 4, none⟩) hg0).trans e4
  have c5 := (hB.cell (p := ⟨g, i * 7 + 5, none⟩) hg0).trans e5
  have c6 := (hB.cell (p := ⟨g, i * 7 + 6, none⟩) hg0).trans e6
  have q1 : g < W.heap.size := Nat.lt_of_lt_of_le hg0 hB.size
  have j1 : (i : Int) < (ps.length : Int) := by omega
  have hw2 := wid_w hw
  have hfew := H.base.few
  have hsp := szP_pos (ps := ps) i
  have hGl := hL.lt
  have hBs := hB.size
  have hUl := H.base.low
  have u0 := hU.c0
  have us := hU.sz
  clear e0 e1 e2 e3 e4 e5 e6
  obtain ⟨q, j, eL, eR, eI, eQ, -, -, eS, eW, eWi, eWj⟩ := un_two H.base.good hi (arity_k.1 (by omega)) hw
  have hq : q < i := by omega
  have hj : j < i := by omega
  have hqt : (ps[i]).L.toNat = q := by omega
  have hjt : (ps[i]).R.toNat = j := by omega
  rw [insideW_dep (by omega)] at eWj
  have hin := wid_w eWj
  have hwq := (wid_range ts ps q w).2 eW
  show Calls _ _ _ _ (IPostX U (.slice (some ⟨g, 0, none⟩) ps.length cap) (.slice (some ⟨bw, 0, none⟩) ps.length ps.length) (uN ts ps (f + 1) i d w out).1 (uN ts ps (f + 1) i d w out).2 G lab W)
  obtain ⟨r, a, hra⟩ : ∃ r a, uN ts ps f q d w out = (r, a) := ⟨_, _, rfl⟩
  have hrl := uN_len H.base.good f q (by omega) (by omega) d w out eW
  rw [hra] at hrl
  dsimp only at hrl
  rw [uN_6 (r := r) (a := a) hp (by omega) (by rw [hqt]; exact hra), hqt, hjt]
  obtain ⟨r2, a2, hra2⟩ : ∃ r2 a2, uN ts ps f j (r.length : Int) (w + iw ts ps q) (r ++ [⟨8, 0, 0, 0, [], [], a, 0⟩]) = (r2, a2) := ⟨_, _, rfl⟩
  have hrl2 := uN_len H.base.good f j (by omega) (by omega) (r.length : Int) (w + iw ts ps q) (r ++ [⟨8, 0, 0, 0, [], [], a, 0⟩]) eWj
  rw [hra2] at hrl2 ⊢
  dsimp only at hrl2 ⊢
  have hr5 : r.length ≤ 5000 := by omega
  have hr6 : r2.length ≤ 5000 := by simp at hrl2; omega
  have hr7 : r.length + 1 ≤ 5000 := by omega
  have hrow := H.base.row.at q (by omega)
  have hrows := H.base.row.lt
  have hiw0 : 0 ≤ iw ts ps q := by omega
  have hiw1 : w + iw ts ps q ≤ 200 := by omega
  have HI2 : Hid (∀ W1 G1 c1 cs1 lab1, UBox W1 U (.slice (some ⟨g, 0, none⟩) ps.length cap) (.slice (some ⟨bw, 0, none⟩) ps.length ps.length) (.slice (some ⟨G1, 0, none⟩) (r.length + 1) c1) → GrowL W1 lab1 (U + 1) G1 c1 (r.length + 1) cs1 (r ++ [⟨8, 0, 0, 0, [], [], a, 0⟩]) → Below w0.heap.size w0 W1 → Calls Tryz.prog 48 #[.pointer (some ⟨U, 0, none⟩), .int .i64 (j : Int), .int .i64 (r.length : Int), .int .i64 (w + iw ts ps q)] W1 (IPostX U (.slice (some ⟨g, 0, none⟩) ps.length cap) (.slice (some ⟨bw, 0, none⟩) ps.length ps.length) r2 a2 G1 lab1 W1)) := fun W1 G1 c1 cs1 lab1 h0 h1 h2 => by
    have hl1 : (r ++ [(⟨8, 0, 0, 0, [], [], a, 0⟩ : Fn)]).length = r.length + 1 := by simp
    have h := H.ih j hj (r.length : Int) (w + iw ts ps q) (r ++ [⟨8, 0, 0, 0, [], [], a, 0⟩]) G1 c1 cs1 lab1 W1 (by omega) eWj (by rw [hl1]; exact h0) (by rw [hl1]; exact h1) h2 (by rw [hl1]; omega)
    unfold IPost at h
    rw [hra2] at h
    exact h
  have HIH : Hid (∀ W1, UBox W1 U (.slice (some ⟨g, 0, none⟩) ps.length cap) (.slice (some ⟨bw, 0, none⟩) ps.length ps.length) (.slice (some ⟨G, 0, none⟩) out.length c) → GrowL W1 lab (U + 1) G c out.length cs out → Below w0.heap.size w0 W1 → Calls Tryz.prog 48 #[.pointer (some ⟨U, 0, none⟩), .int .i64 (q : Int), .int .i64 d, .int .i64 w] W1 (IPostX U (.slice (some ⟨g, 0, none⟩) ps.length cap) (.slice (some ⟨bw, 0, none⟩) ps.length ps.length) r a G lab W1)) := fun W1 h0 h1 h2 => by
    have h := H.ih q hq d w out G c cs lab W1 hw0 eW h0 h1 h2 (by omega)
    unfold IPost at h
    rw [hra] at h
    exact h
  have HCl := hide (fun W' (hb : Below w0.heap.size w0 W') => CloneOps_calls (ps[i]).Ex b3 0 (ps[i]).Ex.length W' (Nat.lt_of_lt_of_le h3s hb.size) (ho3.of h3s hb) (H.base.fit _ (List.getElem_mem hi)).1)
  have tk0 : w0.cell? ⟨0, 7, none⟩ = some (.int .i64 6) := (H.base.tk.cell 7).trans rfl
  have tks : 0 < w0.heap.size := H.base.tk.size
  have HTp := hide H.base.tp
  have HTf := hide H.base.tf
  have tps : 1 < w0.heap.size := H.base.tp.size
  have tfs : 2 < w0.heap.size := H.base.tf.size
  have hM : (ps[i]).M = 0 := (H.base.good.fld i hi).2.2.1.2.2.1 (by rw [hK]; decide)
  generalize ps[i] = p at *
  obtain ⟨K, T, M, Ex, Exs, L, R⟩ := p
  simp only at c0 c1 c2 c3 c4 c5 c6 hK ho3 ho4 hM HCl eL eR hqt hjt
  subst hK eL eR hM
  clear H ho3 ho4 hw hp h4s hra hra2 eW eWi eWj eS eI eQ hi hqt hjt hrl hrl2 hwq
  go_enter Tryz.func48, Tryz.ntmps48
  go_upto_region 8 with fail
  have hx := bA (Below.refl W.heap.size W) (.cells #[.int .i64 7, .int .i64 T, .int .i64 0, .slice (some ⟨b3, 0, none⟩) Ex.length Ex.length, .slice (some ⟨b4, 0, none⟩) Exs.length Exs.length, .int .i64 (q : Int), .int .i64 (j : Int)] 130)
  obtain ⟨n0, n1, n2, n3, n4, n5, n6, zs⟩ := (fun Q (hQ : (W.alloc (.cells #[.int .i64 7, .int .i64 T, .int .i64 0, .slice (some ⟨b3, 0, none⟩) Ex.length Ex.length, .slice (some ⟨b4, 0, none⟩) Exs.length Exs.length, .int .i64 (q : Int), .int .i64 (j : Int)] 130)) = Q) => (by subst hQ; exact ⟨by simp [go_sem], by simp [go_sem], by simp [go_sem], by simp [go_sem], by simp [go_sem], by simp [go_sem], by simp [go_sem], by simp⟩ : Q.cell? ⟨W.heap.size, 0, none⟩ = some (.int .i64 7) ∧ Q.cell? ⟨W.heap.size, 1, none⟩ = some (.int .i64 T) ∧ Q.cell? ⟨W.heap.size, 2, none⟩ = some (.int .i64 0) ∧ Q.cell? ⟨W.heap.size, 3, none⟩ = some (.slice (some ⟨b3, 0, none⟩) Ex.length Ex.length) ∧ Q.cell? ⟨W.heap.size, 4, none⟩ = some (.slice (some ⟨b4, 0, none⟩) Exs.length Exs.length) ∧ Q.cell? ⟨W.heap.size, 5, none⟩ = some (.int .i64 (q : Int)) ∧ Q.cell? ⟨W.heap.size, 6, none⟩ = some (.int .i64 (j : Int)) ∧ Q.heap.size = W.heap.size + 1)) _ rfl
  have HA0 : Hid (StA w0 (W.alloc (.cells #[.int .i64 7, .int .i64 T, .int .i64 0, .slice (some ⟨b3, 0, none⟩) Ex.length Ex.length, .slice (some ⟨b4, 0, none⟩) Exs.length Exs.length, .int .i64 (q : Int), .int .i64 (j : Int)] 130)) (W.alloc (.cells #[.int .i64 7, .int .i64 T, .int .i64 0, .slice (some ⟨b3, 0, none⟩) Ex.length Ex.length, .slice (some ⟨b4, 0, none⟩) Exs.length Exs.length, .int .i64 (q : Int), .int .i64 (j : Int)] 130)) U G c (.slice (some ⟨g, 0, none⟩) ps.length cap) (.slice (some ⟨bw, 0, none⟩) ps.length ps.length) lab out cs) := ⟨hU.of hx, hL.of hx, hB.trans (hx.mono hBs), Below.refl _ _, ⟨by omega, by omega⟩, fun x h1 h2 => by have := hL.rng x h2; omega⟩
  have HX := hide hx
  clear hx hU hL c0 c1 c2 c3 c4 c5 c6 u0
  generalize (W.alloc (.cells #[.int .i64 7, .int .i64 T, .int .i64 0, .slice (some ⟨b3, 0, none⟩) Ex.length Ex.length, .slice (some ⟨b4, 0, none⟩) Exs.length Exs.length, .int .i64 (q : Int), .int .i64 (j : Int)] 130)) = Wb at *
  obtain ⟨x0, hx0⟩ : ∃ x0, W.heap.size = x0 := ⟨_, rfl⟩
  have HX0 := hide hx0
  rw [hx0] at n0 n1 n2 n3 n4 n5 n6 zs hBs hGl us
  rw [hx0]
  clear hx0 q1
  have zx : x0 < Wb.heap.size := by omega
  have HZs := hide zs
  clear zs
  go_cut [11] (fun s wx => ∃ X lab2 G2 k2 a1 a2' cs2 A4 k4, s = .pointer (some ⟨X, 0, none⟩) ∧ After8 Wb wx U G X (.slice (some ⟨g, 0, none⟩) ps.length cap) (.slice (some ⟨bw, 0, none⟩) ps.length ps.length) lab r 6 0 a Ex lab2 G2 k2 a1 a2' cs2 A4 k4)
  case first =>
    have tkb : Wb.cell? ⟨0, 7, none⟩ = some (.int .i64 6) := ((unhide HA0).lo.cell (p := ⟨0, 7, none⟩) tks).trans tk0
    have tkw : 0 < Wb.heap.size := Nat.lt_of_lt_of_le tks (unhide HA0).lo.size
    refine wp_region_held_drew (S := fun W' => (W'.cell? ⟨x0, 0, none⟩ = some (.int .i64 7) ∧ W'.cell? ⟨x0, 2, none⟩ = some (.int .i64 0)) ∧ W'.cell? ⟨x0, 3, none⟩ = some (.slice (some ⟨b3, 0, none⟩) Ex.length Ex.length) ∧ W'.cell? ⟨x0, 5, none⟩ = some (.int .i64 (q : Int)) ∧ W'.cell? ⟨0, 7, none⟩ = some (.int .i64 6)) (by kernel_rfl) ⟨⟨n0, n2⟩, n3, n5, tkb⟩ (fun hH0 => ?_)
    have HSt := hide ((unhide HA0).of (Below.drew (Below.refl _ _)))
    refine tW 0 37 (.pointer (some ⟨x0, 0, none⟩)) ?_
    simp only [puts]
    refine tW 1 38 (.int .i64 7) ?_
    simp only [puts]
    refine tW 2 39 (.pointer (some ⟨0, 7, none⟩)) ?_
    simp only [puts]
    refine tW 3 40 (.int .i64 6) ?_
    simp only [puts]
    refine tW 4 41 (.pointer (some ⟨x0, 2, none⟩)) ?_
    simp only [puts]
    refine tW 5 42 (.int .i64 0) ?_
    simp only [puts]
    refine tW 6 43 (.pointer (some ⟨x0, 3, none⟩)) ?_
    simp only [puts]
    refine tW 7 44 (.slice (some ⟨b3, 0, none⟩) Ex.length Ex.length) ?_
    simp only [puts]
    refine tW 9 46 (.pointer (some ⟨U, 0, none⟩)) ?_
    simp only [puts]
    refine tW 10 47 (.pointer (some ⟨x0, 5, none⟩)) ?_
    simp only [puts]
    refine tW 11 48 (.int .i64 (q : Int)) ?_
    simp only [puts]
    refine tW 12 49 (.int .i64 d) ?_
    simp only [puts]
    refine tW 13 50 (.int .i64 w) ?_
    simp only [puts]
    refine wpAnyH_ready (rs := [8, 16]) (by kernel_rfl) (by simp) ?_
    refine AllReadyH.cons rfl (fun Kx hK => ?_) (AllReadyH.cons rfl (fun Kx hK => ?_) AllReadyH.nil)
    rotate_left
    · skip
      go_simp
      have hax := Below.drew (bA (Below.refl Wb.heap.size Wb) (.cells #[.int .i64 0, .int .i64 0, .int .i64 0, .int .i64 0, .slice none 0 0, .slice none 0 0, .int .i64 0, .int .i64 0] 67))
      refine hK.out _ _ ⟨⟨(hax.cell (p := ⟨x0, 0, none⟩) zx).trans n0, (hax.cell (p := ⟨x0, 2, none⟩) zx).trans n2⟩, (hax.cell (p := ⟨x0, 3, none⟩) zx).trans n3, (hax.cell (p := ⟨x0, 5, none⟩) zx).trans n5, (hax.cell (p := ⟨0, 7, none⟩) tkw).trans tkb⟩ (fun hH1 => ?_)
      replace HSt := hide ((unhide HA0).of hax)
      have HBx := hide ((Box8.made Wb (.int .i64 0) (.int .i64 0) (.int .i64 0) (.int .i64 0) (.slice none 0 0) (.slice none 0 0) (.int .i64 0) (.int .i64 0) 67).of (Below.drew (Below.refl _ _)))
      have HBX0 : Hid (Wb.heap.size ≤ Wb.heap.size) := Nat.le_refl _
      clear hK Kx hax
      refine wpAnyH_ready (rs := [8]) (by kernel_rfl) (by simp) ?_
      refine AllReadyH.cons rfl (fun Kx hK => ?_) AllReadyH.nil
      go_simp
      refine (unhide HCl _ (unhide HSt).lo).mono ?_
      rintro e v2 ⟨u4, rfl, hu4, hbx⟩
      obtain ⟨A4, k4, rfl⟩ := hu4.slice
      have hzw := (unhide HSt).bt.size
      refine hK.out _ _ ⟨⟨(hbx.cell (p := ⟨x0, 0, none⟩) (by dsimp only; omega)).trans hH1.1.1, (hbx.cell (p := ⟨x0, 2, none⟩) (by dsimp only; omega)).trans hH1.1.2⟩, (hbx.cell (p := ⟨x0, 3, none⟩) (by dsimp only; omega)).trans hH1.2.1, (hbx.cell (p := ⟨x0, 5, none⟩) (by dsimp only; omega)).trans hH1.2.2.1, (hbx.cell (p := ⟨0, 7, none⟩) (by dsimp only; omega)).trans hH1.2.2.2⟩ (fun hH2 => ?_)
      have HXa : Hid (¬ ((Wb.alloc (.cells #[.int .i64 0, .int .i64 0, .int .i64 0, .int .i64 0, .slice none 0 0, .slice none 0 0, .int .i64 0, .int .i64 0] 67)).drew.heap.size ≤ Wb.heap.size ∧ Wb.heap.size < v2.heap.size)) := fun e => by have := (unhide HBx).sz; omega
      replace HBx := hide ((unhide HBx).of hbx)
      replace HSt := hide ((unhide HSt).clone hbx hu4)
      clear hK Kx hu4 hbx hzw
      refine wpAnyH_ready (rs := [14]) (by kernel_rfl) (by simp) ?_
      refine AllReadyH.cons rfl (fun Kx hK => ?_) AllReadyH.nil
      go_simp
      refine (unhide HIH _ (unhide HSt).a.ub (unhide HSt).a.gl (unhide HSt).a.lo).mono ?_
      rintro e v3 ⟨lab2, G2, k2, cs2, rfl, hU2, hL2, hl2, hBt2, hG2⟩
      have hzw := (unhide HSt).a.bt.size
      refine hK.out _ _ ⟨⟨(hBt2.cell x0 0 (by omega) (by omega)).trans hH2.1.1, (hBt2.cell x0 2 (by omega) (by omega)).trans hH2.1.2⟩, (hBt2.cell x0 3 (by omega) (by omega)).trans hH2.2.1, (hBt2.cell x0 5 (by omega) (by omega)).trans hH2.2.2.1, (hBt2.cell 0 7 (by omega) (by omega)).trans hH2.2.2.2⟩ (fun hH3 => ?_)
      obtain ⟨hP8, hXx⟩ := (unhide HSt).unn hU2 hL2 hl2 hBt2 hG2
      have hX2 := hXx _ (unhide HBX0) (unhide HBx).sz
      replace HBx := hide ((unhide HBx).butB hBt2 (by have := (unhide HBX0); omega))
      replace HSt := hide hP8
      clear hK Kx hU2 hL2 hl2 hBt2 hG2 hP8 hzw hXx
      refine tW 15 52 (.agg #[.int .i64 6, .int .i64 0, .int .i64 0, .int .i64 0, .slice A4 Ex.length k4, .slice none 0 0, .int .i64 a, .int .i64 0]) ?_
      simp only [puts]
      refine wpAnyH_ready (rs := [17]) (by kernel_rfl) (by simp) ?_
      refine AllReadyH.cons rfl (fun Kx hK => ?_) AllReadyH.nil
      have hzw := (unhide HSt).bt.size
      obtain ⟨d0, d1, d2, d3, d4, d5, d6, d7, df, ds⟩ := id (unhide HBx)
      go_simp
      have hax := put8_but v3 (Wb.heap.size) (.int .i64 6) (.int .i64 0) (.int .i64 0) (.int .i64 0) (.slice A4 Ex.length k4) (.slice none 0 0) (.int .i64 a) (.int .i64 0)
      have hbz := unhide HBX0
      refine hK.out _ _ ⟨⟨(hax.cell x0 0 (by omega) (by omega)).trans hH3.1.1, (hax.cell x0 2 (by omega) (by omega)).trans hH3.1.2⟩, (hax.cell x0 3 (by omega) (by omega)).trans hH3.2.1, (hax.cell x0 5 (by omega) (by omega)).trans hH3.2.2.1, (hax.cell 0 7 (by omega) (by omega)).trans hH3.2.2.2⟩ (fun hH4 => ?_)
      clear hK Kx
      refine wpAnyH_done (by kernel_rfl) ?_ _
      go_wp2_with fail
      go_meet
      exact ⟨_, lab2, G2, k2, _, _, cs2, A4, k4, rfl, (unhide HSt).fin1 (unhide HBx) (unhide HBX0) (unhide HXa) hX2.1 hX2.2 6 0 a⟩
    · skip
      go_simp
      refine (unhide HCl _ (unhide HSt).lo).mono ?_
      rintro e v5 ⟨u4, rfl, hu4, hbx⟩
      obtain ⟨A4, k4, rfl⟩ := hu4.slice
      have hzw := (unhide HSt).bt.size
      refine hK.out _ _ ⟨⟨(hbx.cell (p := ⟨x0, 0, none⟩) (by dsimp only; omega)).trans hH0.1.1, (hbx.cell (p := ⟨x0, 2, none⟩) (by dsimp only; omega)).trans hH0.1.2⟩, (hbx.cell (p := ⟨x0, 3, none⟩) (by dsimp only; omega)).trans hH0.2.1, (hbx.cell (p := ⟨x0, 5, none⟩) (by dsimp only; omega)).trans hH0.2.2.1, (hbx.cell (p := ⟨0, 7, none⟩) (by dsimp only; omega)).trans hH0.2.2.2⟩ (fun hH5 => ?_)
      replace HSt := hide ((unhide HSt).clone hbx hu4)
      clear hK Kx hu4 hbx hzw
      refine wpAnyH_ready (rs := [14, 16]) (by kernel_rfl) (by simp) ?_
      refine AllReadyH.cons rfl (fun Kx hK => ?_) (AllReadyH.cons rfl (fun Kx hK => ?_) AllReadyH.nil)
      rotate_left
      · skip
        go_simp
        have hzw := (unhide HSt).a.bt.size
        have hax := bA (Below.refl v5.heap.size v5) (.cells #[.int .i64 0, .int .i64 0, .int .i64 0, .int .i64 0, .slice none 0 0, .slice none 0 0, .int .i64 0, .int .i64 0] 67)
        refine hK.out _ _ ⟨⟨(hax.cell (p := ⟨x0, 0, none⟩) (by dsimp only; omega)).trans hH5.1.1, (hax.cell (p := ⟨x0, 2, none⟩) (by dsimp only; omega)).trans hH5.1.2⟩, (hax.cell (p := ⟨x0, 3, none⟩) (by dsimp only; omega)).trans hH5.2.1, (hax.cell (p := ⟨x0, 5, none⟩) (by dsimp only; omega)).trans hH5.2.2.1, (hax.cell (p := ⟨0, 7, none⟩) (by dsimp only; omega)).trans hH5.2.2.2⟩ (fun hH6 => ?_)
        replace HSt := hide ((unhide HSt).of hax)
        have HBx := hide (Box8.made v5 (.int .i64 0) (.int .i64 0) (.int .i64 0) (.int .i64 0) (.slice none 0 0) (.slice none 0 0) (.int .i64 0) (.int .i64 0) 67)
        have HBX0 : Hid (Wb.heap.size ≤ v5.heap.size) := hzw
        skip
        clear hK Kx hax hzw
        refine wpAnyH_ready (rs := [14]) (by kernel_rfl) (by simp) ?_
        refine AllReadyH.cons rfl (fun Kx hK => ?_) AllReadyH.nil
        go_simp
        refine (unhide HIH _ (unhide HSt).a.ub (unhide HSt).a.gl (unhide HSt).a.lo).mono ?_
        rintro e v7 ⟨lab2, G2, k2, cs2, rfl, hU2, hL2, hl2, hBt2, hG2⟩
        have hzw := (unhide HSt).a.bt.size
        refine hK.out _ _ ⟨⟨(hBt2.cell x0 0 (by omega) (by omega)).trans hH6.1.1, (hBt2.cell x0 2 (by omega) (by omega)).trans hH6.1.2⟩, (hBt2.cell x0 3 (by omega) (by omega)).trans hH6.2.1, (hBt2.cell x0 5 (by omega) (by omega)).trans hH6.2.2.1, (hBt2.cell 0 7 (by omega) (by omega)).trans hH6.2.2.2⟩ (fun hH7 => ?_)
        obtain ⟨hP8, hXx⟩ := (unhide HSt).unn hU2 hL2 hl2 hBt2 hG2
        have hX2 := hXx _ (unhide HBX0) (unhide HBx).sz
        replace HBx := hide ((unhide HBx).butB hBt2 (by have := (unhide HBX0); omega))
        replace HSt := hide hP8
        clear hK Kx hU2 hL2 hl2 hBt2 hG2 hP8 hzw hXx
        refine tW 15 52 (.agg #[.int .i64 6, .int .i64 0, .int .i64 0, .int .i64 0, .slice A4 Ex.length k4, .slice none 0 0, .int .i64 a, .int .i64 0]) ?_
        simp only [puts]
        refine wpAnyH_ready (rs := [17]) (by kernel_rfl) (by simp) ?_
        refine AllReadyH.cons rfl (fun Kx hK => ?_) AllReadyH.nil
        have hzw := (unhide HSt).bt.size
        obtain ⟨d0, d1, d2, d3, d4, d5, d6, d7, df, ds⟩ := id (unhide HBx)
        go_simp
        have hax := put8_but v7 (v5.heap.size) (.int .i64 6) (.int .i64 0) (.int .i64 0) (.int .i64 0) (.slice A4 Ex.length k4) (.slice none 0 0) (.int .i64 a) (.int .i64 0)
        have hbz := unhide HBX0
        refine hK.out _ _ ⟨⟨(hax.cell x0 0 (by omega) (by omega)).trans hH7.1.1, (hax.cell x0 2 (by omega) (by omega)).trans hH7.1.2⟩, (hax.cell x0 3 (by omega) (by omega)).trans hH7.2.1, (hax.cell x0 5 (by omega) (by omega)).trans hH7.2.2.1, (hax.cell 0 7 (by omega) (by omega)).trans hH7.2.2.2⟩ (fun hH8 => ?_)
        clear hK Kx
        refine wpAnyH_done (by kernel_rfl) ?_ _
        go_wp2_with fail
        go_meet
        exact ⟨_, lab2, G2, k2, _, _, cs2, A4, k4, rfl, (unhide HSt).fin1 (unhide HBx) (unhide HBX0) (by omega) hX2.1 hX2.2 6 0 a⟩
      · skip
        go_simp
        refine (unhide HIH _ (unhide HSt).a.ub (unhide HSt).a.gl (unhide HSt).a.lo).mono ?_
        rintro e v9 ⟨lab2, G2, k2, cs2, rfl, hU2, hL2, hl2, hBt2, hG2⟩
        have hzw := (unhide HSt).a.bt.size
        refine hK.out _ _ ⟨⟨(hBt2.cell x0 0 (by omega) (by omega)).trans hH5.1.1, (hBt2.cell x0 2 (by omega) (by omega)).trans hH5.1.2⟩, (hBt2.cell x0 3 (by omega) (by omega)).trans hH5.2.1, (hBt2.cell x0 5 (by omega) (by omega)).trans hH5.2.2.1, (hBt2.cell 0 7 (by omega) (by omega)).trans hH5.2.2.2⟩ (fun hH9 => ?_)
        obtain ⟨hP8, hXx⟩ := (unhide HSt).unn hU2 hL2 hl2 hBt2 hG2
        replace HSt := hide hP8
        clear hK Kx hU2 hL2 hl2 hBt2 hG2 hP8 hzw hXx
        refine tW 15 52 (.agg #[.int .i64 6, .int .i64 0, .int .i64 0, .int .i64 0, .slice A4 Ex.length k4, .slice none 0 0, .int .i64 a, .int .i64 0]) ?_
        simp only [puts]
        refine wpAnyH_ready (rs := [16]) (by kernel_rfl) (by simp) ?_
        refine AllReadyH.cons rfl (fun Kx hK => ?_) AllReadyH.nil
        go_simp
        have hzw := (unhide HSt).bt.size
        have hax := bA (Below.refl v9.heap.size v9) (.cells #[.int .i64 0, .int .i64 0, .int .i64 0, .int .i64 0, .slice none 0 0, .slice none 0 0, .int .i64 0, .int .i64 0] 67)
        refine hK.out _ _ ⟨⟨(hax.cell (p := ⟨x0, 0, none⟩) (by dsimp only; omega)).trans hH9.1.1, (hax.cell (p := ⟨x0, 2, none⟩) (by dsimp only; omega)).trans hH9.1.2⟩, (hax.cell (p := ⟨x0, 3, none⟩) (by dsimp only; omega)).trans hH9.2.1, (hax.cell (p := ⟨x0, 5, none⟩) (by dsimp only; omega)).trans hH9.2.2.1, (hax.cell (p := ⟨0, 7, none⟩) (by dsimp only; omega)).trans hH9.2.2.2⟩ (fun hH10 => ?_)
        clear hK Kx hax hzw
        refine wpAnyH_ready (rs := [17]) (by kernel_rfl) (by simp) ?_
        refine AllReadyH.cons rfl (fun Kx hK => ?_) AllReadyH.nil
        have hzw := (unhide HSt).bt.size
        go_simp
        have hax := bA (Below.refl v9.heap.size v9) (.cells #[.int .i64 6, .int .i64 0, .int .i64 0, .int .i64 0, .slice A4 Ex.length k4, .slice none 0 0, .int .i64 a, .int .i64 0] 67)
        refine hK.out _ _ ⟨⟨(hax.cell (p := ⟨x0, 0, none⟩) (by dsimp only; omega)).trans hH9.1.1, (hax.cell (p := ⟨x0, 2, none⟩) (by dsimp only; omega)).trans hH9.1.2⟩, (hax.cell (p := ⟨x0, 3, none⟩) (by dsimp only; omega)).trans hH9.2.1, (hax.cell (p := ⟨x0, 5, none⟩) (by dsimp only; omega)).trans hH9.2.2.1, (hax.cell (p := ⟨0, 7, none⟩) (by dsimp only; omega)).trans hH9.2.2.2⟩ (fun hH11 => ?_)
        clear hK Kx
        refine wpAnyH_done (by kernel_rfl) ?_ _
        go_wp2_with fail
        go_meet
        exact ⟨_, lab2, G2, k2, _, _, cs2, A4, k4, rfl, (unhide HSt).fin2 6 0 a _⟩
  case rest =>
    obtain ⟨X, lab2, G2, k2, a1, az, cs2, A4, k4, rfl, h8⟩ := hcut
    have hAl := (unhide HA0).lo
    have hUl' := hUl
    have hlo : Below w0.heap.size w0 wc := h8.bt.low2 hAl (by omega) hUl
    have hg2l := h8.gl.lt
    have hra := h8.ra
    have hg2 := h8.g2
    have hxg := h8.xg
    have hb8 := h8.bt.size
    replace n0 := (h8.bt.cell x0 0 zx (by omega)).trans n0
    replace n1 := (h8.bt.cell x0 1 zx (by omega)).trans n1
    replace n2 := (h8.bt.cell x0 2 zx (by omega)).trans n2
    replace n3 := (h8.bt.cell x0 3 zx (by omega)).trans n3
    replace n4 := (h8.bt.cell x0 4 zx (by omega)).trans n4
    replace n5 := (h8.bt.cell x0 5 zx (by omega)).trans n5
    replace n6 := (h8.bt.cell x0 6 zx (by omega)).trans n6
    have f0 : wc.cell? ⟨1, 56, none⟩ = some (.bool false) := (((unhide HTp).of hlo).cell 56).trans rfl
    have f1 : wc.cell? ⟨1, 57, none⟩ = some (.bool false) := (((unhide HTp).of hlo).cell 57).trans rfl
    have f2 : wc.cell? ⟨1, 58, none⟩ = some (.bool true) := (((unhide HTp).of hlo).cell 58).trans rfl
    have f3 : wc.cell? ⟨1, 59, none⟩ = some (.bool false) := (((unhide HTp).of hlo).cell 59).trans rfl
    have f4 : wc.cell? ⟨1, 60, none⟩ = some (.bool true) := (((unhide HTp).of hlo).cell 60).trans rfl
    have f5 : wc.cell? ⟨1, 61, none⟩ = some (.bool true) := (((unhide HTp).of hlo).cell 61).trans rfl
    have f6 : wc.cell? ⟨1, 62, none⟩ = some (.bool true) := (((unhide HTp).of hlo).cell 62).trans rfl
    have f7 : wc.cell? ⟨1, 63, none⟩ = some (.bool false) := (((unhide HTp).of hlo).cell 63).trans rfl
    have fm : wc.cell? ⟨2, 55, none⟩ = some (.bool true) := (((unhide HTf).of hlo).cell 55).trans rfl
    have fps : 1 < wc.heap.size := Nat.lt_of_lt_of_le tps hlo.size
    have ffs : 2 < wc.heap.size := Nat.lt_of_lt_of_le tfs hlo.size
    have zxc : x0 < wc.heap.size := by omega
    obtain ⟨d0, d1, d2, d3, d4, d5, d6, d7, df, ds⟩ := id h8.box
    have H8 := hide h8
    have HLo := hide hlo
    clear h8 hlo hAl HA0 HIH HCl tk0
    have hx := bA (Below.refl wc.heap.size wc) (.cells #[.bool false, .bool false, .bool true, .bool false, .bool true, .bool true, .bool true, .bool false] 141)
    have hxz : (wc.alloc (.cells #[.bool false, .bool false, .bool true, .bool false, .bool true, .bool true, .bool true, .bool false] 141)).heap.size = wc.heap.size + 1 := by simp
    go_upto_region 13 with fail
    replace n0 := (hx.cell (p := ⟨x0, 0, none⟩) zxc).trans n0
    replace n1 := (hx.cell (p := ⟨x0, 1, none⟩) zxc).trans n1
    replace n2 := (hx.cell (p := ⟨x0, 2, none⟩) zxc).trans n2
    replace n3 := (hx.cell (p := ⟨x0, 3, none⟩) zxc).trans n3
    replace n4 := (hx.cell (p := ⟨x0, 4, none⟩) zxc).trans n4
    replace n5 := (hx.cell (p := ⟨x0, 5, none⟩) zxc).trans n5
    replace n6 := (hx.cell (p := ⟨x0, 6, none⟩) zxc).trans n6
    replace fm := (hx.cell (p := ⟨2, 55, none⟩) ffs).trans fm
    have HUd := hide ((unhide H8).ub.of hx)
    have HLd := hide ((unhide H8).gl.of hx)
    have HEd := hide ((unhide H8).ex.of hx)
    have HXd := hide ((unhide H8).box.of hx)
    have HLod := hide ((unhide HLo).trans (hx.mono (unhide HLo).size))
    have HBd : Hid (ButB (fun b => b = G ∨ b = U) W (wc.alloc (.cells #[.bool false, .bool false, .bool true, .bool false, .bool true, .bool true, .bool true, .bool false] 141))) := ((ButB.ofBelow (unhide HX)).trans (unhide H8).bt).trans (ButB.ofBelow hx)
    have HFr := hide (unhide H8).fr
    have HXl := hide (unhide H8).xl
    have HLl := hide (unhide H8).ll
    have g12 : (wc.alloc (.cells #[.bool false, .bool false, .bool true, .bool false, .bool true, .bool true, .bool true, .bool false] 141)).cell? ⟨wc.heap.size, 5, none⟩ = some (.bool true) := by simp [go_sem]
    have g12s : wc.heap.size < (wc.alloc (.cells #[.bool false, .bool false, .bool true, .bool false, .bool true, .bool true, .bool true, .bool false] 141)).heap.size := by omega
    clear d0 d1 d2 d3 d4 d5 d6 d7 df ds f0 f1 f2 f3 f4 f5 f6 f7 HLo H8
    obtain ⟨xz, hxz2⟩ : ∃ xz, wc.heap.size = xz := ⟨_, rfl⟩
    have hzz : wc.heap.size ≤ xz := by omega
    rw [hxz2] at g12 g12s
    generalize (wc.alloc (.cells #[.bool false, .bool false, .bool true, .bool false, .bool true, .bool true, .bool true, .bool false] 141)) = wd at *
    rw [hxz2]
    have zxd : x0 < wd.heap.size := by omega
    have ffd : 2 < wd.heap.size := by omega
    have xzd : xz < wd.heap.size := by omega
    clear hx hxz2
    obtain ⟨d0, d1, d2, d3, d4, d5, d6, d7, df, ds⟩ := id (unhide HXd)
    have HAd := hide (add_calls 8 0 0 0 a 0 [] [] none none 0 0 0 0 U G2 k2 r.length lab2 cs2 r (.slice (some ⟨g, 0, none⟩) ps.length cap) (.slice (some ⟨bw, 0, none⟩) ps.length ps.length) wd 0 0 0 0 0 (fun _ => 0) (unhide HUd) (unhide HLd) hr5 (fun x _ h => by omega) (fun x _ h => by omega) (fun h => by omega) (fun h => by omega) (fun h => by omega) (Or.inl ⟨rfl, _, _, rfl⟩) (Or.inl ⟨rfl, _, _, rfl⟩))
    rw [labP_zero] at HAd
    go_wp2_with fail
    refine (unhide HAd).mono ?_; rintro e we ⟨Gd, kd, rfl, hUe, hLe, hBte, hGe⟩
    have hze := hBte.size
    have hGd4 : Gd = G2 ∨ wd.heap.size ≤ Gd := hGe
    have xwd : X < wd.heap.size := (unhide HXd).sz
    replace n0 := (hBte.cell x0 0 zxd (by omega)).trans n0
    replace n1 := (hBte.cell x0 1 zxd (by omega)).trans n1
    replace n2 := (hBte.cell x0 2 zxd (by omega)).trans n2
    replace n3 := (hBte.cell x0 3 zxd (by omega)).trans n3
    replace n4 := (hBte.cell x0 4 zxd (by omega)).trans n4
    replace n5 := (hBte.cell x0 5 zxd (by omega)).trans n5
    replace n6 := (hBte.cell x0 6 zxd (by omega)).trans n6
    replace fm := (hBte.cell 2 55 ffd (by omega)).trans fm
    replace g12 := (hBte.cell xz 5 xzd (by omega)).trans g12
    replace HEd := hide ((unhide HEd).butB hBte (fun b e e' => by omega))
    replace HXd := hide ((unhide HXd).butB hBte (by omega))
    replace HLod := hide (hBte.low2 (unhide HLod) (by omega) hUl)
    replace HBd : Hid (ButB (fun b => b = G ∨ b = U) W we) := (unhide HBd).trans' hBte (fun b e => by rw [unhide HX0]; omega)
    replace HUd := hide hUe
    replace HLd := hide hLe
    replace zxd : x0 < we.heap.size := by omega
    replace ffd : 2 < we.heap.size := by omega
    replace xzd : xz < we.heap.size := by omega
    have w1e := (unhide HUd).c1
    have w1s := (unhide HUd).sz
    have rwe := ((unhide HLod).cell (p := ⟨bw, q, none⟩) hrows).trans hrow
    have rws : bw < we.heap.size := Nat.lt_of_lt_of_le hrows (unhide HLod).size
    have jq : (q : Int) < (ps.length : Int) := by omega
    generalize (cs2 ++ vFn ⟨8, 0, 0, 0, [], [], a, 0⟩ (.slice none 0 0) (.slice none 0 0)) = csd at *
    clear hUe hLe hBte HAd d0 d1 d2 d3 d4 d5 d6 d7 df ds
    obtain ⟨d0, d1, d2, d3, d4, d5, d6, d7, df, ds⟩ := id (unhide HXd)
    generalize iw ts ps q = lw at *
    go_upto_region 14 with fail
    go_quiet (fail)
    go_upto_region 16 with fail
    have hdr := below_drewN (Below.refl we.heap.size we) nq
    replace n0 := (hdr.cell (p := ⟨x0, 0, none⟩) zxd).trans n0
    replace n1 := (hdr.cell (p := ⟨x0, 1, none⟩) zxd).trans n1
    replace n2 := (hdr.cell (p := ⟨x0, 2, none⟩) zxd).trans n2
    replace n3 := (hdr.cell (p := ⟨x0, 3, none⟩) zxd).trans n3
    replace n4 := (hdr.cell (p := ⟨x0, 4, none⟩) zxd).trans n4
    replace n5 := (hdr.cell (p := ⟨x0, 5, none⟩) zxd).trans n5
    replace n6 := (hdr.cell (p := ⟨x0, 6, none⟩) zxd).trans n6
    replace fm := (hdr.cell (p := ⟨2, 55, none⟩) ffd).trans fm
    replace HUd := hide ((unhide HUd).of hdr)
    replace HLd := hide ((unhide HLd).of hdr)
    replace HEd := hide ((unhide HEd).of hdr)
    replace HXd := hide ((unhide HXd).of hdr)
    replace HLod := hide ((unhide HLod).trans (hdr.mono (unhide HLod).size))
    replace HBd := hide ((unhide HBd).trans (ButB.ofBelow hdr))
    have hzf := hdr.size
    clear hdr rwe w1e w1s g12 d0 d1 d2 d3 d4 d5 d6 d7 df ds
    generalize we.drewN nq = wf at *
    replace zxd : x0 < wf.heap.size := by omega
    replace ffd : 2 < wf.heap.size := by omega
    obtain ⟨d0, d1, d2, d3, d4, d5, d6, d7, df, ds⟩ := id (unhide HXd)
    go_wp2_with fail
    refine (unhide HI2 wf Gd kd csd lab2 (unhide HUd) (unhide HLd) (unhide HLod)).mono ?_; rintro e w5 ⟨lab5, G5, k5, cs5, rfl, hU5, hL5, hl5, hBt5, hG5⟩
    have hz5 := hBt5.size
    replace fm := (hBt5.cell 2 55 ffd (by omega)).trans fm
    have ff5 : 2 < w5.heap.size := by omega
    clear d0 d1 d2 d3 d4 d5 d6 d7 df ds
    have HX5 := hide ((unhide HXd).butB hBt5 (by omega))
    have HE5 := hide ((unhide HEd).butB hBt5 (fun b e e' => by omega))
    have HFr5 : Hid (Free lab5 a1 az) := (unhide HFr).keep (s := wf.heap.size) (by omega) hl5
    have HXl5 : Hid (¬ (lab5 X).1 ≤ 2) := by rw [hl5 X (by have := (unhide HXd).sz; omega)]; exact unhide HXl
    have HLl5 : Hid (∀ x, x < x0 → lab5 x = lab x) := fun x hx => (hl5 x (by omega)).trans ((unhide HLl) x (by omega))
    have HB5 : Hid (ButB (fun b => b = G ∨ b = U) W w5) := (unhide HBd).trans' hBt5 (fun b e => by rw [unhide HX0]; omega)
    have HU5 := hide hU5; have HL5 := hide hL5
    have hl5g := hL5.lt
    have hxs := (unhide HXd).sz
    obtain ⟨d0, d1, d2, d3, d4, d5, d6, d7, df, ds⟩ := id (unhide HX5)
    clear hU5 hL5 hl5 hBt5 HI2 HXd HEd HFr HXl HLl HBd HUd HLd HLod n0 n1 n2 n3 n4 n5 n6
    go_upto_region 19 with fail
    have hBx : ButB (fun b => b = X) w5 ((w5.setCell ⟨X, 7, none⟩ (.int .i64 a2)).setCell ⟨X, 3, none⟩ (.int .i64 (w + lw))) := (ButB.set (S := fun b => b = X) (ButB.set (S := fun b => b = X) (ButB.refl _ _) (Or.inl rfl) _) (Or.inl rfl) _)
    obtain ⟨t0, t1, t2, t3, t4, t5, t6, t7⟩ := (fun Q (hQ : ((w5.setCell ⟨X, 7, none⟩ (.int .i64 a2)).setCell ⟨X, 3, none⟩ (.int .i64 (w + lw))) = Q) => (by subst hQ; exact ⟨(setCell_otherN (by omega)).trans ((setCell_otherN (by omega)).trans (d0)), (setCell_otherN (by omega)).trans ((setCell_otherN (by omega)).trans (d1)), (setCell_otherN (by omega)).trans ((setCell_otherN (by omega)).trans (d2)), World.cell?_setCell_same _ _ _ ((setCell_otherN (by omega)).trans (d3)), (setCell_otherN (by omega)).trans ((setCell_otherN (by omega)).trans (d4)), (setCell_otherN (by omega)).trans ((setCell_otherN (by omega)).trans (d5)), (setCell_otherN (by omega)).trans ((setCell_otherN (by omega)).trans (d6)), (setCell_otherN (by omega)).trans (World.cell?_setCell_same _ _ _ (d7))⟩ : Q.cell? ⟨X, 0, none⟩ = some (.int .i64 6) ∧ Q.cell? ⟨X, 1, none⟩ = some (.int .i64 0) ∧ Q.cell? ⟨X, 2, none⟩ = some (.int .i64 0) ∧ Q.cell? ⟨X, 3, none⟩ = some (.int .i64 (w + lw)) ∧ Q.cell? ⟨X, 4, none⟩ = some (.slice A4 Ex.length k4) ∧ Q.cell? ⟨X, 5, none⟩ = some (.slice none 0 0) ∧ Q.cell? ⟨X, 6, none⟩ = some (.int .i64 a) ∧ Q.cell? ⟨X, 7, none⟩ = some (.int .i64 a2))) _ rfl
    have HU6 := hide ((unhide HU5).butB hBx (by omega))
    have HL6 := hide ((unhide HL5).butB hBx (by omega) (fun b h e => by subst e; exact unhide HXl5 h))
    have HE6 := hide ((unhide HE5).butB hBx (fun b e e' => by omega))
    have HB6 : Hid (ButB (fun b => b = G ∨ b = U) W ((w5.setCell ⟨X, 7, none⟩ (.int .i64 a2)).setCell ⟨X, 3, none⟩ (.int .i64 (w + lw)))) := (unhide HB5).trans' hBx (fun b e => by rw [unhide HX0]; omega)
    have s6 : ((w5.setCell ⟨X, 7, none⟩ (.int .i64 a2)).setCell ⟨X, 3, none⟩ (.int .i64 (w + lw))).heap.size = w5.heap.size := by simp
    clear hBx HU5 HL5 HE5 HB5 HX5 d0 d1 d2 d3 d4 d5 d6 d7 df fm
    generalize ((w5.setCell ⟨X, 7, none⟩ (.int .i64 a2)).setCell ⟨X, 3, none⟩ (.int .i64 (w + lw))) = w6 at *
    have ds6 : X < w6.heap.size := by omega
    have HAdd := hide (add_calls 6 0 0 (w + lw) a a2 Ex [] A4 none Ex.length 0 k4 0 U G5 k5 r2.length lab5 cs5 r2 (.slice (some ⟨g, 0, none⟩) ps.length cap) (.slice (some ⟨bw, 0, none⟩) ps.length ps.length) w6 a1 az 0 0 0 (fun _ => 0) (unhide HU6) (unhide HL6) hr6 (unhide HFr5) (fun x _ h => by omega) (fun _ => ⟨by omega, by omega, by omega⟩) (fun h => by omega) (fun _ h => by omega) (unhide HE6) (Or.inl ⟨rfl, _, _, rfl⟩))
    have HS6 := hide s6
    clear s6 HU6 HL6 HE6
    go_wp2_with fail
    refine (unhide HAdd).mono ?_; rintro e w7 ⟨G3, k3, rfl, hU3, hL3, hBt3, hG3⟩
    have s6 := unhide HS6
    have HU3 := hide hU3; have HL3 := hide hL3
    have HB3 : Hid (ButB (fun b => b = G ∨ b = U) W w7) := (unhide HB6).trans' hBt3 (fun b e => by rw [unhide HX0]; omega)
    have hG3' : G3 = G ∨ x0 ≤ G3 := by omega
    have HLw : Hid (∀ x, x < x0 → labP lab5 r2.length a1 az 0 0 0 (fun _ => 0) x = lab x) := fun x hx => (labP_low (s := x0) (fun _ => by omega) (fun h => by omega) x hx).trans (unhide HLl5 x hx)
    clear hU3 hL3 hBt3 HAdd s6 HS6 t0 t1 t2 t3 t4 t5 t6 t7
    go_wp2
    go_ret
    have hlr : (r2 ++ [(⟨6, 0, 0, (w + lw), Ex, [], a, a2⟩ : Fn)]).length = r2.length + 1 := by simp
    exact ⟨_, G3, k3, _, by first | rfl | simp [go_sem], by rw [hlr]; exact unhide HU3, by rw [hlr]; exact unhide HL3, by rw [unhide HX0]; exact unhide HLw, unhide HB3, by rw [unhide HX0]; exact hG3'⟩
end Go.Proofs.YtnchcndcinpalaaGreatDoor
