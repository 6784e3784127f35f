import Derived.Test.YtnchcndcinpalaaGreatDoorQ33
namespace Go.Proofs.YtnchcndcinpalaaGreatDoor
open Go Go.RowKit
set_option maxRecDepth 100000 in
set_option maxHeartbeats 8000000 in
theorem I_3 (ts : List Tb) (ps : List Pn) (g cap bw U : Nat) (w0 : World) (f i : Nat) (H : IHyp ts ps g cap bw U w0 f i) (hi : i < ps.length) (hif : i ≤ f) (hK : (ps[i]).K = 3) (d w : Int) (out : List Fn) (G c : Nat) (cs : List Value) (lab : Lb) (W : World) (hw0 : 0 ≤ w) (hw : 0 ≤ wid ts ps i w) (hU : UBox W U (.slice (some ⟨g, 0, none⟩) ps.length cap) (.slice (some ⟨bw, 0, none⟩) ps.length ps.length) (.slice (some ⟨G, 0, none⟩) out.length c)) (hL : GrowL W lab (U + 1) G c out.length cs out) (hB : Below w0.heap.size w0 W) (hlen : out.length + 2 * szP ps i ≤ 5000) :
    Calls Tryz.prog 48 #[.pointer (some ⟨U, 0, none⟩), .int .i64 (i : Int), .int .i64 d, .int .i64 w] W (IPost ts ps U (.slice (some ⟨g, 0, none⟩) ps.length cap) (.slice (some ⟨bw, 0, none⟩) ps.length ps.length) (f + 1) i d w out G lab W) := by
  have hp : ps[i]? = some ps[i] := List.getElem?_eq_getElem hi
  have _u := And.intro hif (And.intro hw0 hlen)
  clear _u
  obtain ⟨e0, e1, e2, e5, e6, ⟨b3, e3, _, h3s, ho3⟩, b4, e4, _, h4s, ho4⟩ := H.base.hn.at i hi
  simp only [Nat.zero_add] at e0 e1 e2 e3 e4 e5 e6
  have hg0 := H.base.hg
  have c0 := (hB.cell (p := ⟨g, i * 7, none⟩) hg0).trans e0
  have c1 := (hB.cell (p := ⟨g, i * 7 + 1, none⟩) hg0).trans e1
  have c2 := (hB.cell (p := ⟨g, i * 7 + 2, none⟩) hg0).trans e2
  have c3 := (hB.cell (p := ⟨g, i * 7 + 3, none⟩) hg0).trans e3
  have c4 := (hB.cell (p := ⟨g, i * 7 + 4, none⟩) hg0).trans e4
  have c5 := (hB.cell (p := ⟨g, i * 7 + 5, none⟩) hg0).trans e5
  have c6 := (hB.cell (p := ⟨g, i * 7 + 6, none⟩) hg0).trans e6
  have q1 : g < W.heap.size := Nat.lt_of_lt_of_le hg0 hB.size
  have j1 : (i : Int) < (ps.length : Int) := by omega
  have hw2 := wid_w hw
  have hfew := H.base.few
  have hsp := szP_pos (ps := ps) i
  have hGl := hL.lt
  have hBs := hB.size
  have hUl := H.base.low
  have u0 := hU.c0
  have us := hU.sz
  clear e0 e1 e2 e3 e4 e5 e6
  obtain ⟨q, eL, eI, -, eS, eW⟩ := un_one H.base.good hi (arity_k.2.1 (by omega)) hw
  have hq : q < i := by omega
  have hqt : (ps[i]).L.toNat = q := by omega
  show Calls _ _ _ _ (IPostX U (.slice (some ⟨g, 0, none⟩) ps.length cap) (.slice (some ⟨bw, 0, none⟩) ps.length ps.length) (uN ts ps (f + 1) i d w out).1 (uN ts ps (f + 1) i d w out).2 G lab W)
  rw [uN_3 hp hK, hqt]
  obtain ⟨r, a, hra⟩ : ∃ r a, uN ts ps f q d w out = (r, a) := ⟨_, _, rfl⟩
  have hrl := uN_len H.base.good f q (by omega) (by omega) d w out eW
  rw [hra] at hrl ⊢
  dsimp only at hrl ⊢
  have hr5 : r.length ≤ 5000 := by omega
  have HIH : Hid (∀ W1, UBox W1 U (.slice (some ⟨g, 0, none⟩) ps.length cap) (.slice (some ⟨bw, 0, none⟩) ps.length ps.length) (.slice (some ⟨G, 0, none⟩) out.length c) → GrowL W1 lab (U + 1) G c out.length cs out → Below w0.heap.size w0 W1 → Calls Tryz.prog 48 #[.pointer (some ⟨U, 0, none⟩), .int .i64 (q : Int), .int .i64 d, .int .i64 w] W1 (IPostX U (.slice (some ⟨g, 0, none⟩) ps.length cap) (.slice (some ⟨bw, 0, none⟩) ps.length ps.length) r a G lab W1)) := fun W1 h0 h1 h2 => by
    have h := H.ih q hq d w out G c cs lab W1 hw0 eW h0 h1 h2 (by omega)
    unfold IPost at h
    rw [hra] at h
    exact h
  have HCl := hide (fun W' (hb : Below w0.heap.size w0 W') => CloneOps_calls (ps[i]).Ex b3 0 (ps[i]).Ex.length W' (Nat.lt_of_lt_of_le h3s hb.size) (ho3.of h3s hb) (H.base.fit _ (List.getElem_mem hi)).1)
  have tk0 : w0.cell? ⟨0, 3, none⟩ = some (.int .i64 3) := (H.base.tk.cell 3).trans rfl
  have tks : 0 < w0.heap.size := H.base.tk.size
  have HTp := hide H.base.tp
  have HTf := hide H.base.tf
  have tps : 1 < w0.heap.size := H.base.tp.size
  have tfs : 2 < w0.heap.size := H.base.tf.size
  have hM : (ps[i]).M = 0 := (H.base.good.fld i hi).2.2.1.2.2.1 (by rw [hK]; decide)
  generalize ps[i] = p at *
  obtain ⟨K, T, M, Ex, Exs, L, R⟩ := p
  simp only at c0 c1 c2 c3 c4 c5 c6 hK ho3 ho4 hM HCl eL hqt
  subst hK eL hM
  clear H ho3 ho4 hw hp h4s hra eW eS eI hi hqt
  go_enter Tryz.func48, Tryz.ntmps48
  go_upto_region 8 with fail
  have hx := bA (Below.refl W.heap.size W) (.cells #[.int .i64 3, .int .i64 T, .int .i64 0, .slice (some ⟨b3, 0, none⟩) Ex.length Ex.length, .slice (some ⟨b4, 0, none⟩) Exs.length Exs.length, .int .i64 (q : Int), .int .i64 R] 130)
  obtain ⟨n0, n1, n2, n3, n4, n5, n6, zs⟩ := (fun Q (hQ : (W.alloc (.cells #[.int .i64 3, .int .i64 T, .int .i64 0, .slice (some ⟨b3, 0, none⟩) Ex.length Ex.length, .slice (some ⟨b4, 0, none⟩) Exs.length Exs.length, .int .i64 (q : Int), .int .i64 R] 130)) = Q) => (by subst hQ; exact ⟨by simp [go_sem], by simp [go_sem], by simp [go_sem], by simp [go_sem], by simp [go_sem], by simp [go_sem], by simp [go_sem], by simp⟩ : Q.cell? ⟨W.heap.size, 0, none⟩ = some (.int .i64 3) ∧ Q.cell? ⟨W.heap.size, 1, none⟩ = some (.int .i64 T) ∧ Q.cell? ⟨W.heap.size, 2, none⟩ = some (.int .i64 0) ∧ Q.cell? ⟨W.heap.size, 3, none⟩ = some (.slice (some ⟨b3, 0, none⟩) Ex.length Ex.length) ∧ Q.cell? ⟨W.heap.size, 4, none⟩ = some (.slice (some ⟨b4, 0, none⟩) Exs.length Exs.length) ∧ Q.cell? ⟨W.heap.size, 5, none⟩ = some (.int .i64 (q : Int)) ∧ Q.cell? ⟨W.heap.size, 6, none⟩ = some (.int .i64 R) ∧ Q.heap.size = W.heap.size + 1)) _ rfl
  have HA0 : Hid (StA w0 (W.alloc (.cells #[.int .i64 3, .int .i64 T, .int .i64 0, .slice (some ⟨b3, 0, none⟩) Ex.length Ex.length, .slice (some ⟨b4, 0, none⟩) Exs.length Exs.length, .int .i64 (q : Int), .int .i64 R] 130)) (W.alloc (.cells #[.int .i64 3, .int .i64 T, .int .i64 0, .slice (some ⟨b3, 0, none⟩) Ex.length Ex.length, .slice (some ⟨b4, 0, none⟩) Exs.length Exs.length, .int .i64 (q : Int), .int .i64 R] 130)) U G c (.slice (some ⟨g, 0, none⟩) ps.length cap) (.slice (some ⟨bw, 0, none⟩) ps.length ps.length) lab out cs) := ⟨hU.of hx, hL.of hx, hB.trans (hx.mono hBs), Below.refl _ _, ⟨by omega, by omega⟩, fun x h1 h2 => by have := hL.rng x h2; omega⟩
  have HX := hide hx
  clear hx hU hL c0 c1 c2 c3 c4 c5 c6 u0
  generalize (W.alloc (.cells #[.int .i64 3, .int .i64 T, .int .i64 0, .slice (some ⟨b3, 0, none⟩) Ex.length Ex.length, .slice (some ⟨b4, 0, none⟩) Exs.length Exs.length, .int .i64 (q : Int), .int .i64 R] 130)) = Wb at *
  obtain ⟨x0, hx0⟩ : ∃ x0, W.heap.size = x0 := ⟨_, rfl⟩
  have HX0 := hide hx0
  rw [hx0] at n0 n1 n2 n3 n4 n5 n6 zs hBs hGl us
  rw [hx0]
  clear hx0 q1
  have zx : x0 < Wb.heap.size := by omega
  have HZs := hide zs
  clear zs
  go_cut [11] (fun s wx => ∃ X lab2 G2 k2 a1 a2 cs2 A4 k4, s = .pointer (some ⟨X, 0, none⟩) ∧ After8 Wb wx U G X (.slice (some ⟨g, 0, none⟩) ps.length cap) (.slice (some ⟨bw, 0, none⟩) ps.length ps.length) lab r 3 0 a Ex lab2 G2 k2 a1 a2 cs2 A4 k4)
  case first =>
    have tkb : Wb.cell? ⟨0, 3, none⟩ = some (.int .i64 3) := ((unhide HA0).lo.cell (p := ⟨0, 3, none⟩) tks).trans tk0
    have tkw : 0 < Wb.heap.size := Nat.lt_of_lt_of_le tks (unhide HA0).lo.size
    refine wp_region_held_drew (S := fun W' => (W'.cell? ⟨x0, 0, none⟩ = some (.int .i64 3) ∧ W'.cell? ⟨x0, 2, none⟩ = some (.int .i64 0)) ∧ W'.cell? ⟨x0, 3, none⟩ = some (.slice (some ⟨b3, 0, none⟩) Ex.length Ex.length) ∧ W'.cell? ⟨x0, 5, none⟩ = some (.int .i64 (q : Int)) ∧ W'.cell? ⟨0, 3, none⟩ = some (.int .i64 3)) (by kernel_rfl) ⟨⟨n0, n2⟩, n3, n5, tkb⟩ (fun hH0 => ?_)
    have HSt := hide ((unhide HA0).of (Below.drew (Below.refl _ _)))
    refine tW 0 37 (.pointer (some ⟨x0, 0, none⟩)) ?_
    simp only [puts]
    refine tW 1 38 (.int .i64 3) ?_
    simp only [puts]
    refine tW 2 39 (.pointer (some ⟨0, 3, none⟩)) ?_
    simp only [puts]
    refine tW 3 40 (.int .i64 3) ?_
    simp only [puts]
    refine tW 4 41 (.pointer (some ⟨x0, 2, none⟩)) ?_
    simp only [puts]
    refine tW 5 42 (.int .i64 0) ?_
    simp only [puts]
    refine tW 6 43 (.pointer (some ⟨x0, 3, none⟩)) ?_
    simp only [puts]
    refine tW 7 44 (.slice (some ⟨b3, 0, none⟩) Ex.length Ex.length) ?_
    simp only [puts]
    refine tW 9 46 (.pointer (some ⟨U, 0, none⟩)) ?_
    simp only [puts]
    refine tW 10 47 (.pointer (some ⟨x0, 5, none⟩)) ?_
    simp only [puts]
    refine tW 11 48 (.int .i64 (q : Int)) ?_
    simp only [puts]
    refine tW 12 49 (.int .i64 d) ?_
    simp only [puts]
    refine tW 13 50 (.int .i64 w) ?_
    simp only [puts]
    refine wpAnyH_ready (rs := [8, 16]) (by kernel_rfl) (by simp) ?_
    refine AllReadyH.cons rfl (fun Kx hK => ?_) (AllReadyH.cons rfl (fun Kx hK => ?_) AllReadyH.nil)
    rotate_left
    · skip
      go_simp
      have hax := Below.drew (bA (Below.refl Wb.heap.size Wb) (.cells #[.int .i64 0, .int .i64 0, .int .i64 0, .int .i64 0, .slice none 0 0, .slice none 0 0, .int .i64 0, .int .i64 0] 67))
      refine hK.out _ _ ⟨⟨(hax.cell (p := ⟨x0, 0, none⟩) zx).trans n0, (hax.cell (p := ⟨x0, 2, none⟩) zx).trans n2⟩, (hax.cell (p := ⟨x0, 3, none⟩) zx).trans n3, (hax.cell (p := ⟨x0, 5, none⟩) zx).trans n5, (hax.cell (p := ⟨0, 3, none⟩) tkw).trans tkb⟩ (fun hH1 => ?_)
      replace HSt := hide ((unhide HA0).of hax)
      have HBx := hide ((Box8.made Wb (.int .i64 0) (.int .i64 0) (.int .i64 0) (.int .i64 0) (.slice none 0 0) (.slice none 0 0) (.int .i64 0) (.int .i64 0) 67).of (Below.drew (Below.refl _ _)))
      have HBX0 : Hid (Wb.heap.size ≤ Wb.heap.size) := Nat.le_refl _
      clear hK Kx hax
      refine wpAnyH_ready (rs := [8]) (by kernel_rfl) (by simp) ?_
      refine AllReadyH.cons rfl (fun Kx hK => ?_) AllReadyH.nil
      go_simp
      refine (unhide HCl _ (unhide HSt).lo).mono ?_
      rintro e v2 ⟨u4, rfl, hu4, hbx⟩
      obtain ⟨A4, k4, rfl⟩ := hu4.slice
      have hzw := (unhide HSt).bt.size
      refine hK.out _ _ ⟨⟨(hbx.cell (p := ⟨x0, 0, none⟩) (by dsimp only; omega)).trans hH1.1.1, (hbx.cell (p := ⟨x0, 2, none⟩) (by dsimp only; omega)).trans hH1.1.2⟩, (hbx.cell (p := ⟨x0, 3, none⟩) (by dsimp only; omega)).trans hH1.2.1, (hbx.cell (p := ⟨x0, 5, none⟩) (by dsimp only; omega)).trans hH1.2.2.1, (hbx.cell (p := ⟨0, 3, none⟩) (by dsimp only; omega)).trans hH1.2.2.2⟩ (fun hH2 => ?_)
      have HXa : Hid (¬ ((Wb.alloc (.cells #[.int .i64 0, .int .i64 0, .int .i64 0, .int .i64 0, .slice none 0 0, .slice none 0 0, .int .i64 0, .int .i64 0] 67)).drew.heap.size ≤ Wb.heap.size ∧ Wb.heap.size < v2.heap.size)) := fun e => by have := (unhide HBx).sz; omega
      replace HBx := hide ((unhide HBx).of hbx)
      replace HSt := hide ((unhide HSt).clone hbx hu4)
      clear hK Kx hu4 hbx hzw
      refine wpAnyH_ready (rs := [14]) (by kernel_rfl) (by simp) ?_
      refine AllReadyH.cons rfl (fun Kx hK => ?_) AllReadyH.nil
      go_simp
      refine (unhide HIH _ (unhide HSt).a.ub (unhide HSt).a.gl (unhide HSt).a.lo).mono ?_
      rintro e v3 ⟨lab2, G2, k2, cs2, rfl, hU2, hL2, hl2, hBt2, hG2⟩
      have hzw := (unhide HSt).a.bt.size
      refine hK.out _ _ ⟨⟨(hBt2.cell x0 0 (by omega) (by omega)).trans hH2.1.1, (hBt2.cell x0 2 (by omega) (by omega)).trans hH2.1.2⟩, (hBt2.cell x0 3 (by omega) (by omega)).trans hH2.2.1, (hBt2.cell x0 5 (by omega) (by omega)).trans hH2.2.2.1, (hBt2.cell 0 3 (by omega) (by omega)).trans hH2.2.2.2⟩ (fun hH3 => ?_)
      obtain ⟨hP8, hXx⟩ := (unhide HSt).unn hU2 hL2 hl2 hBt2 hG2
      have hX2 := hXx _ (unhide HBX0) (unhide HBx).sz
      replace HBx := hide ((unhide HBx).butB hBt2 (by have := (unhide HBX0); omega))
      replace HSt := hide hP8
      clear hK Kx hU2 hL2 hl2 hBt2 hG2 hP8 hzw hXx
      refine tW 15 52 (.agg #[.int .i64 3, .int .i64 0, .int .i64 0, .int .i64 0, .slice A4 Ex.length k4, .slice none 0 0, .int .i64 a, .int .i64 0]) ?_
      simp only [puts]
      refine wpAnyH_ready (rs := [17]) (by kernel_rfl) (by simp) ?_
      refine AllReadyH.cons rfl (fun Kx hK => ?_) AllReadyH.nil
      have hzw := (unhide HSt).bt.size
      obtain ⟨d0, d1, d2, d3, d4, d5, d6, d7, df, ds⟩ := id (unhide HBx)
      go_simp
      have hax := put8_but v3 (Wb.heap.size) (.int .i64 3) (.int .i64 0) (.int .i64 0) (.int .i64 0) (.slice A4 Ex.length k4) (.slice none 0 0) (.int .i64 a) (.int .i64 0)
      have hbz := unhide HBX0
      refine hK.out _ _ ⟨⟨(hax.cell x0 0 (by omega) (by omega)).trans hH3.1.1, (hax.cell x0 2 (by omega) (by omega)).trans hH3.1.2⟩, (hax.cell x0 3 (by omega) (by omega)).trans hH3.2.1, (hax.cell x0 5 (by omega) (by omega)).trans hH3.2.2.1, (hax.cell 0 3 (by omega) (by omega)).trans hH3.2.2.2⟩ (fun hH4 => ?_)
      clear hK Kx
      refine wpAnyH_done (by kernel_rfl) ?_ _
      go_wp2_with fail
      go_meet
      exact ⟨_, lab2, G2, k2, _, _, cs2, A4, k4, rfl, (unhide HSt).fin1 (unhide HBx) (unhide HBX0) (unhide HXa) hX2.1 hX2.2 3 0 a⟩
    · skip
      go_simp
      refine (unhide HCl _ (unhide HSt).lo).mono ?_
      rintro e v5 ⟨u4, rfl, hu4, hbx⟩
      obtain ⟨A4, k4, rfl⟩ := hu4.slice
      have hzw := (unhide HSt).bt.size
      refine hK.out _ _ ⟨⟨(hbx.cell (p := ⟨x0, 0, none⟩) (by dsimp only; omega)).trans hH0.1.1, (hbx.cell (p := ⟨x0, 2, none⟩) (by dsimp only; omega)).trans hH0.1.2⟩, (hbx.cell (p := ⟨x0, 3, none⟩) (by dsimp only; omega)).trans hH0.2.1, (hbx.cell (p := ⟨x0, 5, none⟩) (by dsimp only; omega)).trans hH0.2.2.1, (hbx.cell (p := ⟨0, 3, none⟩) (by dsimp only; omega)).trans hH0.2.2.2⟩ (fun hH5 => ?_)
      replace HSt := hide ((unhide HSt).clone hbx hu4)
      clear hK Kx hu4 hbx hzw
      refine wpAnyH_ready (rs := [14, 16]) (by kernel_rfl) (by simp) ?_
      refine AllReadyH.cons rfl (fun Kx hK => ?_) (AllReadyH.cons rfl (fun Kx hK => ?_) AllReadyH.nil)
      rotate_left
      · skip
        go_simp
        have hzw := (unhide HSt).a.bt.size
        have hax := bA (Below.refl v5.heap.size v5) (.cells #[.int .i64 0, .int .i64 0, .int .i64 0, .int .i64 0, .slice none 0 0, .slice none 0 0, .int .i64 0, .int .i64 0] 67)
        refine hK.out _ _ ⟨⟨(hax.cell (p := ⟨x0, 0, none⟩) (by dsimp only; omega)).trans hH5.1.1, (hax.cell (p := ⟨x0, 2, none⟩) (by dsimp only; omega)).trans hH5.1.2⟩, (hax.cell (p := ⟨x0, 3, none⟩) (by dsimp only; omega)).trans hH5.2.1, (hax.cell (p := ⟨x0, 5, none⟩) (by dsimp only; omega)).trans hH5.2.2.1, (hax.cell (p := ⟨0, 3, none⟩) (by dsimp only; omega)).trans hH5.2.2.2⟩ (fun hH6 => ?_)
        replace HSt := hide ((unhide HSt).of hax)
        have HBx := hide (Box8.made v5 (.int .i64 0) (.int .i64 0) (.int .i64 0) (.int .i64 0) (.slice none 0 0) (.slice none 0 0) (.int .i64 0) (.int .i64 0) 67)
        have HBX0 : Hid (Wb.heap.size ≤ v5.heap.size) := hzw
        skip
        clear hK Kx hax hzw
        refine wpAnyH_ready (rs := [14]) (by kernel_rfl) (by simp) ?_
        refine AllReadyH.cons rfl (fun Kx hK => ?_) AllReadyH.nil
        go_simp
        refine (unhide HIH _ (unhide HSt).a.ub (unhide HSt).a.gl (unhide HSt).a.lo).mono ?_
        rintro e v7 ⟨lab2, G2, k2, cs2, rfl, hU2, hL2, hl2, hBt2, hG2⟩
        have hzw := (unhide HSt).a.bt.size
        refine hK.out _ _ ⟨⟨(hBt2.cell x0 0 (by omega) (by omega)).trans hH6.1.1, (hBt2.cell x0 2 (by omega) (by omega)).trans hH6.1.2⟩, (hBt2.cell x0 3 (by omega) (by omega)).trans hH6.2.1, (hBt2.cell x0 5 (by omega) (by omega)).trans hH6.2.2.1, (hBt2.cell 0 3 (by omega) (by omega)).trans hH6.2.2.2⟩ (fun hH7 => ?_)
        obtain ⟨hP8, hXx⟩ := (unhide HSt).unn hU2 hL2 hl2 hBt2 hG2
        have hX2 := hXx _ (unhide HBX0) (unhide HBx).sz
        replace HBx := hide ((unhide HBx).butB hBt2 (by have := (unhide HBX0); omega))
        replace HSt := hide hP8
        clear hK Kx hU2 hL2 hl2 hBt2 hG2 hP8 hzw hXx
        refine tW 15 52 (.agg #[.int .i64 3, .int .i64 0, .int .i64 0, .int .i64 0, .slice A4 Ex.length k4, .slice none 0 0, .int .i64 a, .int .i64 0]) ?_
        simp only [puts]
        refine wpAnyH_ready (rs := [17]) (by kernel_rfl) (by simp) ?_
        refine AllReadyH.cons rfl (fun Kx hK => ?_) AllReadyH.nil
        have hzw := (unhide HSt).bt.size
        obtain ⟨d0, d1, d2, d3, d4, d5, d6, d7, df, ds⟩ := id (unhide HBx)
        go_simp
        have hax := put8_but v7 (v5.heap.size) (.int .i64 3) (.int .i64 0) (.int .i64 0) (.int .i64 0) (.slice A4 Ex.length k4) (.slice none 0 0) (.int .i64 a) (.int .i64 0)
        have hbz := unhide HBX0
        refine hK.out _ _ ⟨⟨(hax.cell x0 0 (by omega) (by omega)).trans hH7.1.1, (hax.cell x0 2 (by omega) (by omega)).trans hH7.1.2⟩, (hax.cell x0 3 (by omega) (by omega)).trans hH7.2.1, (hax.cell x0 5 (by omega) (by omega)).trans hH7.2.2.1, (hax.cell 0 3 (by omega) (by omega)).trans hH7.2.2.2⟩ (fun hH8 => ?_)
        clear hK Kx
        refine wpAnyH_done (by kernel_rfl) ?_ _
        go_wp2_with fail
        go_meet
        exact ⟨_, lab2, G2, k2, _, _, cs2, A4, k4, rfl, (unhide HSt).fin1 (unhide HBx) (unhide HBX0) (by omega) hX2.1 hX2.2 3 0 a⟩
      · skip
        go_simp
        refine (unhide HIH _ (unhide HSt).a.ub (unhide HSt).a.gl (unhide HSt).a.lo).mono ?_
        rintro e v9 ⟨lab2, G2, k2, cs2, rfl, hU2, hL2, hl2, hBt2, hG2⟩
        have hzw := (unhide HSt).a.bt.size
        refine hK.out _ _ ⟨⟨(hBt2.cell x0 0 (by omega) (by omega)).trans hH5.1.1, (hBt2.cell x0 2 (by omega) (by omega)).trans hH5.1.2⟩, (hBt2.cell x0 3 (by omega) (by omega)).trans hH5.2.1, (hBt2.cell x0 5 (by omega) (by omega)).trans hH5.2.2.1, (hBt2.cell 0 3 (by omega) (by omega)).trans hH5.2.2.2⟩ (fun hH9 => ?_)
        obtain ⟨hP8, hXx⟩ := (unhide HSt).unn hU2 hL2 hl2 hBt2 hG2
        replace HSt := hide hP8
        clear hK Kx hU2 hL2 hl2 hBt2 hG2 hP8 hzw hXx
        refine tW 15 52 (.agg #[.int .i64 3, .int .i64 0, .int .i64 0, .int .i64 0, .slice A4 Ex.length k4, .slice none 0 0, .int .i64 a, .int .i64 0]) ?_
        simp only [puts]
        refine wpAnyH_ready (rs := [16]) (by kernel_rfl) (by simp) ?_
        refine AllReadyH.cons rfl (fun Kx hK => ?_) AllReadyH.nil
        go_simp
        have hzw := (unhide HSt).bt.size
        have hax := bA (Below.refl v9.heap.size v9) (.cells #[.int .i64 0, .int .i64 0, .int .i64 0, .int .i64 0, .slice none 0 0, .slice none 0 0, .int .i64 0, .int .i64 0] 67)
        refine hK.out _ _ ⟨⟨(hax.cell (p := ⟨x0, 0, none⟩) (by dsimp only; omega)).trans hH9.1.1, (hax.cell (p := ⟨x0, 2, none⟩) (by dsimp only; omega)).trans hH9.1.2⟩, (hax.cell (p := ⟨x0, 3, none⟩) (by dsimp only; omega)).trans hH9.2.1, (hax.cell (p := ⟨x0, 5, none⟩) (by dsimp only; omega)).trans hH9.2.2.1, (hax.cell (p := ⟨0, 3, none⟩) (by dsimp only; omega)).trans hH9.2.2.2⟩ (fun hH10 => ?_)
        clear hK Kx hax hzw
        refine wpAnyH_ready (rs := [17]) (by kernel_rfl) (by simp) ?_
        refine AllReadyH.cons rfl (fun Kx hK => ?_) AllReadyH.nil
        have hzw := (unhide HSt).bt.size
        go_simp
        have hax := bA (Below.refl v9.heap.size v9) (.cells #[.int .i64 3, .int .i64 0, .int .i64 0, .int .i64 0, .slice A4 Ex.length k4, .slice none 0 0, .int .i64 a, .int .i64 0] 67)
        refine hK.out _ _ ⟨⟨(hax.cell (p := ⟨x0, 0, none⟩) (by dsimp only; omega)).trans hH9.1.1, (hax.cell (p := ⟨x0, 2, none⟩) (by dsimp only; omega)).trans hH9.1.2⟩, (hax.cell (p := ⟨x0, 3, none⟩) (by dsimp only; omega)).trans hH9.2.1, (hax.cell (p := ⟨x0, 5, none⟩) (by dsimp only; omega)).trans hH9.2.2.1, (hax.cell (p := ⟨0, 3, none⟩) (by dsimp only; omega)).trans hH9.2.2.2⟩ (fun hH11 => ?_)
        clear hK Kx
        refine wpAnyH_done (by kernel_rfl) ?_ _
        go_wp2_with fail
        go_meet
        exact ⟨_, lab2, G2, k2, _, _, cs2, A4, k4, rfl, (unhide HSt).fin2 3 0 a _⟩
  case rest =>
    obtain ⟨X, lab2, G2, k2, a1, a2, cs2, A4, k4, rfl, h8⟩ := hcut
    have hAl := (unhide HA0).lo
    have hUl' := hUl
    have hlo : Below w0.heap.size w0 wc := h8.bt.low2 hAl (by omega) hUl
    have hg2l := h8.gl.lt
    have hra := h8.ra
    have hg2 := h8.g2
    have hxg := h8.xg
    have hb8 := h8.bt.size
    replace n0 := (h8.bt.cell x0 0 zx (by omega)).trans n0
    replace n1 := (h8.bt.cell x0 1 zx (by omega)).trans n1
    replace n2 := (h8.bt.cell x0 2 zx (by omega)).trans n2
    replace n3 := (h8.bt.cell x0 3 zx (by omega)).trans n3
    replace n4 := (h8.bt.cell x0 4 zx (by omega)).trans n4
    replace n5 := (h8.bt.cell x0 5 zx (by omega)).trans n5
    replace n6 := (h8.bt.cell x0 6 zx (by omega)).trans n6
    have f0 : wc.cell? ⟨1, 24, none⟩ = some (.bool false) := (((unhide HTp).of hlo).cell 24).trans rfl
    have f1 : wc.cell? ⟨1, 25, none⟩ = some (.bool false) := (((unhide HTp).of hlo).cell 25).trans rfl
    have f2 : wc.cell? ⟨1, 26, none⟩ = some (.bool true) := (((unhide HTp).of hlo).cell 26).trans rfl
    have f3 : wc.cell? ⟨1, 27, none⟩ = some (.bool false) := (((unhide HTp).of hlo).cell 27).trans rfl
    have f4 : wc.cell? ⟨1, 28, none⟩ = some (.bool true) := (((unhide HTp).of hlo).cell 28).trans rfl
    have f5 : wc.cell? ⟨1, 29, none⟩ = some (.bool false) := (((unhide HTp).of hlo).cell 29).trans rfl
    have f6 : wc.cell? ⟨1, 30, none⟩ = some (.bool false) := (((unhide HTp).of hlo).cell 30).trans rfl
    have f7 : wc.cell? ⟨1, 31, none⟩ = some (.bool false) := (((unhide HTp).of hlo).cell 31).trans rfl
    have fm : wc.cell? ⟨2, 31, none⟩ = some (.bool false) := (((unhide HTf).of hlo).cell 31).trans rfl
    have fps : 1 < wc.heap.size := Nat.lt_of_lt_of_le tps hlo.size
    have ffs : 2 < wc.heap.size := Nat.lt_of_lt_of_le tfs hlo.size
    have zxc : x0 < wc.heap.size := by omega
    obtain ⟨d0, d1, d2, d3, d4, d5, d6, d7, df, ds⟩ := id h8.box
    have H8 := hide h8
    have HLo := hide hlo
    clear h8 hlo hAl HA0 HIH HCl tk0
    have hx := bA (Below.refl wc.heap.size wc) (.cells #[.bool false, .bool false, .bool true, .bool false, .bool true, .bool false, .bool false, .bool false] 141)
    have hxz : (wc.alloc (.cells #[.bool false, .bool false, .bool true, .bool false, .bool true, .bool false, .bool false, .bool false] 141)).heap.size = wc.heap.size + 1 := by simp
    have HAdd := hide (add_calls 3 0 0 0 a 0 Ex [] A4 none Ex.length 0 k4 0 U G2 k2 r.length lab2 cs2 r (.slice (some ⟨g, 0, none⟩) ps.length cap) (.slice (some ⟨bw, 0, none⟩) ps.length ps.length) _ a1 a2 0 0 0 (fun _ => 0) ((unhide H8).ub.of hx) ((unhide H8).gl.of hx) hr5 (unhide H8).fr (fun x _ h => by omega) (fun _ => ⟨by omega, by omega, hra.2.2.1⟩) (fun h => by omega) (fun _ h => by omega) ((unhide H8).ex.of hx) (Or.inl ⟨rfl, _, _, rfl⟩))
    have HXx := hide hx
    have HXz := hide hxz
    clear hx hxz
    go_wp2_with fail
    refine (unhide HAdd).mono ?_; rintro e w3 ⟨G3, k3, rfl, hU3, hL3, hBt3, hG3⟩
    have hxz := unhide HXz
    have HU3 := hide hU3; have HL3 := hide hL3
    have HB3 : Hid (ButB (fun b => b = G ∨ b = U) W w3) := ((((ButB.ofBelow (unhide HX)).trans (unhide H8).bt)).trans (ButB.ofBelow (unhide HXx))).trans' hBt3 (fun b e => by rw [unhide HX0]; omega)
    have hG3' : G3 = G ∨ x0 ≤ G3 := by omega
    have HLw : Hid (∀ x, x < x0 → labP lab2 r.length a1 a2 0 0 0 (fun _ => 0) x = lab x) := fun x hx => (labP_low (s := x0) (fun _ => by omega) (fun h => by omega) x hx).trans ((unhide H8).ll x (by omega))
    clear hU3 hL3 hBt3 HAdd hxz HXz
    go_wp2
    go_ret
    have hlr : (r ++ [(⟨3, 0, 0, 0, Ex, [], a, 0⟩ : Fn)]).length = r.length + 1 := by simp
    exact ⟨_, G3, k3, _, by first | rfl | simp [go_sem], by rw [hlr]; exact unhide HU3, by rw [hlr]; exact unhide HL3, by rw [unhide HX0]; exact unhide HLw, unhide HB3, by rw [unhide HX0]; exact hG3'⟩
end Go.Proofs.YtnchcndcinpalaaGreatDoor
