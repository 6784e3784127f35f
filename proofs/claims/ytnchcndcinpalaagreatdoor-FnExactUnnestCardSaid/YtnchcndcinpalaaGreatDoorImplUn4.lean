import Derived.Test.YtnchcndcinpalaaGreatDoorQ33
import Derived.Test.YtnchcndcinpalaaGreatDoorQ15
namespace Go.Proofs.YtnchcndcinpalaaGreatDoor
open Go Go.RowKit
set_option maxRecDepth 100000 in
set_option maxHeartbeats 8000000 in
theorem I_4 (ts : List Tb) (ps : List Pn) (g cap bw U : Nat) (w0 : World) (f i : Nat) (H : IHyp ts ps g cap bw U w0 f i) (hi : i < ps.length) (hif : i ≤ f) (hK : (ps[i]).K = 4) (d w : Int) (out : List Fn) (G c : Nat) (cs : List Value) (lab : Lb) (W : World) (hw0 : 0 ≤ w) (hw : 0 ≤ wid ts ps i w) (hU : UBox W U (.slice (some ⟨g, 0, none⟩) ps.length cap) (.slice (some ⟨bw, 0, none⟩) ps.length ps.length) (.slice (some ⟨G, 0, none⟩) out.length c)) (hL : GrowL W lab (U + 1) G c out.length cs out) (hB : Below w0.heap.size w0 W) (hlen : out.length + 2 * szP ps i ≤ 5000) :
    Calls Tryz.prog 48 #[.pointer (some ⟨U, 0, none⟩), .int .i64 (i : Int), .int .i64 d, .int .i64 w] W (IPost ts ps U (.slice (some ⟨g, 0, none⟩) ps.length cap) (.slice (some ⟨bw, 0, none⟩) ps.length ps.length) (f + 1) i d w out G lab W) := by
  have hp : ps[i]? = some ps[i] := List.getElem?_eq_getElem hi
  have _u := And.intro hif (And.intro hw0 hlen)
  clear _u
  obtain ⟨e0, e1, e2, e5, e6, ⟨b3, e3, _, h3s, ho3⟩, b4, e4, _, h4s, ho4⟩ := H.base.hn.at i hi
  simp only [Nat.zero_add] at e0 e1 e2 e3 e4 e5 e6
  have hg0 := H.base.hg
  have c0 := (hB.cell (p := ⟨g, i * 7, none⟩) hg0).trans e0
  have c1 := (hB.cell (p := ⟨g, i * 7 + 1, none⟩) hg0).trans e1
  have c2 := (hB.cell (p := ⟨g, i * 7 + 2, none⟩) hg0).trans e2
  have c3 := (hB.cell (p := ⟨g, i * 7 + 3, none⟩) hg0).trans e3
  have c4 := (hB.cell (p := ⟨g, i * 7 + 4, none⟩) hg0).trans e4
  have c5 := (hB.cell (p := ⟨g, i * 7 + 5, none⟩) hg0).trans e5
  have c6 := (hB.cell (p := ⟨g, i * 7 + 6, none⟩) hg0).trans e6
  have q1 : g < W.heap.size := Nat.lt_of_lt_of_le hg0 hB.size
  have j1 : (i : Int) < (ps.length : Int) := by omega
  have hw2 := wid_w hw
  have hfew := H.base.few
  have hsp := szP_pos (ps := ps) i
  have hGl := hL.lt
  have hBs := hB.size
  have hUl := H.base.low
  have u0 := hU.c0
  have us := hU.sz
  clear e0 e1 e2 e3 e4 e5 e6
  obtain ⟨q, eL, eI, -, eS, eW⟩ := un_one H.base.good hi (arity_k.2.1 (by omega)) hw
  have hq : q < i := by omega
  have hqt : (ps[i]).L.toNat = q := by omega
  show Calls _ _ _ _ (IPostX U (.slice (some ⟨g, 0, none⟩) ps.length cap) (.slice (some ⟨bw, 0, none⟩) ps.length ps.length) (uN ts ps (f + 1) i d w out).1 (uN ts ps (f + 1) i d w out).2 G lab W)
  rw [uN_4 hp hK, hqt]
  obtain ⟨r, a, hra⟩ : ∃ r a, uN ts ps f q d w out = (r, a) := ⟨_, _, rfl⟩
  have hrl := uN_len H.base.good f q (by omega) (by omega) d w out eW
  rw [hra] at hrl ⊢
  dsimp only at hrl ⊢
  have hr5 : r.length ≤ 5000 := by omega
  have HIH : Hid (∀ W1, UBox W1 U (.slice (some ⟨g, 0, none⟩) ps.length cap) (.slice (some ⟨bw, 0, none⟩) ps.length ps.length) (.slice (some ⟨G, 0, none⟩) out.length c) → GrowL W1 lab (U + 1) G c out.length cs out → Below w0.heap.size w0 W1 → Calls Tryz.prog 48 #[.pointer (some ⟨U, 0, none⟩), .int .i64 (q : Int), .int .i64 d, .int .i64 w] W1 (IPostX U (.slice (some ⟨g, 0, none⟩) ps.length cap) (.slice (some ⟨bw, 0, none⟩) ps.length ps.length) r a G lab W1)) := fun W1 h0 h1 h2 => by
    have h := H.ih q hq d w out G c cs lab W1 hw0 eW h0 h1 h2 (by omega)
    unfold IPost at h
    rw [hra] at h
    exact h
  have HCl := hide (fun W' (hb : Below w0.heap.size w0 W') => CloneOps_calls (ps[i]).Ex b3 0 (ps[i]).Ex.length W' (Nat.lt_of_lt_of_le h3s hb.size) (ho3.of h3s hb) (H.base.fit _ (List.getElem_mem hi)).1)
  have tk0 : w0.cell? ⟨0, 4, none⟩ = some (.int .i64 4) := (H.base.tk.cell 4).trans rfl
  have tks : 0 < w0.heap.size := H.base.tk.size
  have HTp := hide H.base.tp
  have HTf := hide H.base.tf
  have tps : 1 < w0.heap.size := H.base.tp.size
  have tfs : 2 < w0.heap.size := H.base.tf.size
  have hM : (ps[i]).M = 0 := (H.base.good.fld i hi).2.2.1.2.2.1 (by rw [hK]; decide)
  obtain ⟨fit1, fit2, fit3⟩ := H.base.fit _ (List.getElem_mem hi)
  have HO4 := hide (fun W' (hb : Below w0.heap.size w0 W') => cloneExs_calls (ps[i]).Exs b4 (ps[i]).Exs.length W' (Nat.lt_of_lt_of_le h4s hb.size) (ho4.of h4s hb) fit2 fit3)
  have HEx := hide (fun W' => columnExs_calls w.toNat w (by omega) W' (by omega))
  obtain ⟨ie, hie, hy⟩ := Option.map_eq_some_iff.1 (show (Tryz.prog.info? 64).map (fun i => (i.zero, i.size, i.bytes)) = some (some (.slice none 0 0), 1, 24) by kernel_rfl)
  simp only [Prod.mk.injEq] at hy
  obtain ⟨hy0, hy1, hy2⟩ := hy
  generalize ps[i] = p at *
  obtain ⟨K, T, M, Ex, Exs, L, R⟩ := p
  simp only at c0 c1 c2 c3 c4 c5 c6 hK ho3 ho4 hM HCl eL hqt HO4 fit2
  subst hK eL hM
  clear H ho3 ho4 hw hp h4s hra eW eS eI hi hqt fit1 fit3
  go_enter Tryz.func48, Tryz.ntmps48
  go_upto_region 8 with fail
  have hx := bA (Below.refl W.heap.size W) (.cells #[.int .i64 4, .int .i64 T, .int .i64 0, .slice (some ⟨b3, 0, none⟩) Ex.length Ex.length, .slice (some ⟨b4, 0, none⟩) Exs.length Exs.length, .int .i64 (q : Int), .int .i64 R] 130)
  obtain ⟨n0, n1, n2, n3, n4, n5, n6, zs⟩ := (fun Q (hQ : (W.alloc (.cells #[.int .i64 4, .int .i64 T, .int .i64 0, .slice (some ⟨b3, 0, none⟩) Ex.length Ex.length, .slice (some ⟨b4, 0, none⟩) Exs.length Exs.length, .int .i64 (q : Int), .int .i64 R] 130)) = Q) => (by subst hQ; exact ⟨by simp [go_sem], by simp [go_sem], by simp [go_sem], by simp [go_sem], by simp [go_sem], by simp [go_sem], by simp [go_sem], by simp⟩ : Q.cell? ⟨W.heap.size, 0, none⟩ = some (.int .i64 4) ∧ Q.cell? ⟨W.heap.size, 1, none⟩ = some (.int .i64 T) ∧ Q.cell? ⟨W.heap.size, 2, none⟩ = some (.int .i64 0) ∧ Q.cell? ⟨W.heap.size, 3, none⟩ = some (.slice (some ⟨b3, 0, none⟩) Ex.length Ex.length) ∧ Q.cell? ⟨W.heap.size, 4, none⟩ = some (.slice (some ⟨b4, 0, none⟩) Exs.length Exs.length) ∧ Q.cell? ⟨W.heap.size, 5, none⟩ = some (.int .i64 (q : Int)) ∧ Q.cell? ⟨W.heap.size, 6, none⟩ = some (.int .i64 R) ∧ Q.heap.size = W.heap.size + 1)) _ rfl
  have HA0 : Hid (StA w0 (W.alloc (.cells #[.int .i64 4, .int .i64 T, .int .i64 0, .slice (some ⟨b3, 0, none⟩) Ex.length Ex.length, .slice (some ⟨b4, 0, none⟩) Exs.length Exs.length, .int .i64 (q : Int), .int .i64 R] 130)) (W.alloc (.cells #[.int .i64 4, .int .i64 T, .int .i64 0, .slice (some ⟨b3, 0, none⟩) Ex.length Ex.length, .slice (some ⟨b4, 0, none⟩) Exs.length Exs.length, .int .i64 (q : Int), .int .i64 R] 130)) U G c (.slice (some ⟨g, 0, none⟩) ps.length cap) (.slice (some ⟨bw, 0, none⟩) ps.length ps.length) lab out cs) := ⟨hU.of hx, hL.of hx, hB.trans (hx.mono hBs), Below.refl _ _, ⟨by omega, by omega⟩, fun x h1 h2 => by have := hL.rng x h2; omega⟩
  have HX := hide hx
  clear hx hU hL c0 c1 c2 c3 c4 c5 c6 u0
  generalize (W.alloc (.cells #[.int .i64 4, .int .i64 T, .int .i64 0, .slice (some ⟨b3, 0, none⟩) Ex.length Ex.length, .slice (some ⟨b4, 0, none⟩) Exs.length Exs.length, .int .i64 (q : Int), .int .i64 R] 130)) = Wb at *
  obtain ⟨x0, hx0⟩ : ∃ x0, W.heap.size = x0 := ⟨_, rfl⟩
  have HX0 := hide hx0
  rw [hx0] at n0 n1 n2 n3 n4 n5 n6 zs hBs hGl us
  rw [hx0]
  clear hx0 q1
  have zx : x0 < Wb.heap.size := by omega
  have HZs := hide zs
  clear zs
  go_cut [11] (fun s wx => ∃ X lab2 G2 k2 a1 a2 cs2 A4 k4, s = .pointer (some ⟨X, 0, none⟩) ∧ After8 Wb wx U G X (.slice (some ⟨g, 0, none⟩) ps.length cap) (.slice (some ⟨bw, 0, none⟩) ps.length ps.length) lab r 4 0 a Ex lab2 G2 k2 a1 a2 cs2 A4 k4)
  case first =>
    have tkb : Wb.cell? ⟨0, 4, none⟩ = some (.int .i64 4) := ((unhide HA0).lo.cell (p := ⟨0, 4, none⟩) tks).trans tk0
    have tkw : 0 < Wb.heap.size := Nat.lt_of_lt_of_le tks (unhide HA0).lo.size
    refine wp_region_held_drew (S := fun W' => (W'.cell? ⟨x0, 0, none⟩ = some (.int .i64 4) ∧ W'.cell? ⟨x0, 2, none⟩ = some (.int .i64 0)) ∧ W'.cell? ⟨x0, 3, none⟩ = some (.slice (some ⟨b3, 0, none⟩) Ex.length Ex.length) ∧ W'.cell? ⟨x0, 5, none⟩ = some (.int .i64 (q : Int)) ∧ W'.cell? ⟨0, 4, none⟩ = some (.int .i64 4)) (by kernel_rfl) ⟨⟨n0, n2⟩, n3, n5, tkb⟩ (fun hH0 => ?_)
    have HSt := hide ((unhide HA0).of (Below.drew (Below.refl _ _)))
    refine tW 0 37 (.pointer (some ⟨x0, 0, none⟩)) ?_
    simp only [puts]
    refine tW 1 38 (.int .i64 4) ?_
    simp only [puts]
    refine tW 2 39 (.pointer (some ⟨0, 4, none⟩)) ?_
    simp only [puts]
    refine tW 3 40 (.int .i64 4) ?_
    simp only [puts]
    refine tW 4 41 (.pointer (some ⟨x0, 2, none⟩)) ?_
    simp only [puts]
    refine tW 5 42 (.int .i64 0) ?_
    simp only [puts]
    refine tW 6 43 (.pointer (some ⟨x0, 3, none⟩)) ?_
    simp only [puts]
    refine tW 7 44 (.slice (some ⟨b3, 0, none⟩) Ex.length Ex.length) ?_
    simp only [puts]
    refine tW 9 46 (.pointer (some ⟨U, 0, none⟩)) ?_
    simp only [puts]
    refine tW 10 47 (.pointer (some ⟨x0, 5, none⟩)) ?_
    simp only [puts]
    refine tW 11 48 (.int .i64 (q : Int)) ?_
    simp only [puts]
    refine tW 12 49 (.int .i64 d) ?_
    simp only [puts]
    refine tW 13 50 (.int .i64 w) ?_
    simp only [puts]
    refine wpAnyH_ready (rs := [8, 16]) (by kernel_rfl) (by simp) ?_
    refine AllReadyH.cons rfl (fun Kx hK => ?_) (AllReadyH.cons rfl (fun Kx hK => ?_) AllReadyH.nil)
    rotate_left
    · skip
      go_simp
      have hax := Below.drew (bA (Below.refl Wb.heap.size Wb) (.cells #[.int .i64 0, .int .i64 0, .int .i64 0, .int .i64 0, .slice none 0 0, .slice none 0 0, .int .i64 0, .int .i64 0] 67))
      refine hK.out _ _ ⟨⟨(hax.cell (p := ⟨x0, 0, none⟩) zx).trans n0, (hax.cell (p := ⟨x0, 2, none⟩) zx).trans n2⟩, (hax.cell (p := ⟨x0, 3, none⟩) zx).trans n3, (hax.cell (p := ⟨x0, 5, none⟩) zx).trans n5, (hax.cell (p := ⟨0, 4, none⟩) tkw).trans tkb⟩ (fun hH1 => ?_)
      replace HSt := hide ((unhide HA0).of hax)
      have HBx := hide ((Box8.made Wb (.int .i64 0) (.int .i64 0) (.int .i64 0) (.int .i64 0) (.slice none 0 0) (.slice none 0 0) (.int .i64 0) (.int .i64 0) 67).of (Below.drew (Below.refl _ _)))
      have HBX0 : Hid (Wb.heap.size ≤ Wb.heap.size) := Nat.le_refl _
      clear hK Kx hax
      refine wpAnyH_ready (rs := [8]) (by kernel_rfl) (by simp) ?_
      refine AllReadyH.cons rfl (fun Kx hK => ?_) AllReadyH.nil
      go_simp
      refine (unhide HCl _ (unhide HSt).lo).mono ?_
      rintro e v2 ⟨u4, rfl, hu4, hbx⟩
      obtain ⟨A4, k4, rfl⟩ := hu4.slice
      have hzw := (unhide HSt).bt.size
      refine hK.out _ _ ⟨⟨(hbx.cell (p := ⟨x0, 0, none⟩) (by dsimp only; omega)).trans hH1.1.1, (hbx.cell (p := ⟨x0, 2, none⟩) (by dsimp only; omega)).trans hH1.1.2⟩, (hbx.cell (p := ⟨x0, 3, none⟩) (by dsimp only; omega)).trans hH1.2.1, (hbx.cell (p := ⟨x0, 5, none⟩) (by dsimp only; omega)).trans hH1.2.2.1, (hbx.cell (p := ⟨0, 4, none⟩) (by dsimp only; omega)).trans hH1.2.2.2⟩ (fun hH2 => ?_)
      have HXa : Hid (¬ ((Wb.alloc (.cells #[.int .i64 0, .int .i64 0, .int .i64 0, .int .i64 0, .slice none 0 0, .slice none 0 0, .int .i64 0, .int .i64 0] 67)).drew.heap.size ≤ Wb.heap.size ∧ Wb.heap.size < v2.heap.size)) := fun e => by have := (unhide HBx).sz; omega
      replace HBx := hide ((unhide HBx).of hbx)
      replace HSt := hide ((unhide HSt).clone hbx hu4)
      clear hK Kx hu4 hbx hzw
      refine wpAnyH_ready (rs := [14]) (by kernel_rfl) (by simp) ?_
      refine AllReadyH.cons rfl (fun Kx hK => ?_) AllReadyH.nil
      go_simp
      refine (unhide HIH _ (unhide HSt).a.ub (unhide HSt).a.gl (unhide HSt).a.lo).mono ?_
      rintro e v3 ⟨lab2, G2, k2, cs2, rfl, hU2, hL2, hl2, hBt2, hG2⟩
      have hzw := (unhide HSt).a.bt.size
      refine hK.out _ _ ⟨⟨(hBt2.cell x0 0 (by omega) (by omega)).trans hH2.1.1, (hBt2.cell x0 2 (by omega) (by omega)).trans hH2.1.2⟩, (hBt2.cell x0 3 (by omega) (by omega)).trans hH2.2.1, (hBt2.cell x0 5 (by omega) (by omega)).trans hH2.2.2.1, (hBt2.cell 0 4 (by omega) (by omega)).trans hH2.2.2.2⟩ (fun hH3 => ?_)
      obtain ⟨hP8, hXx⟩ := (unhide HSt).unn hU2 hL2 hl2 hBt2 hG2
      have hX2 := hXx _ (unhide HBX0) (unhide HBx).sz
      replace HBx := hide ((unhide HBx).butB hBt2 (by have := (unhide HBX0); omega))
      replace HSt := hide hP8
      clear hK Kx hU2 hL2 hl2 hBt2 hG2 hP8 hzw hXx
      refine tW 15 52 (.agg #[.int .i64 4, .int .i64 0, .int .i64 0, .int .i64 0, .slice A4 Ex.length k4, .slice none 0 0, .int .i64 a, .int .i64 0]) ?_
      simp only [puts]
      refine wpAnyH_ready (rs := [17]) (by kernel_rfl) (by simp) ?_
      refine AllReadyH.cons rfl (fun Kx hK => ?_) AllReadyH.nil
      have hzw := (unhide HSt).bt.size
      obtain ⟨d0, d1, d2, d3, d4, d5, d6, d7, df, ds⟩ := id (unhide HBx)
      go_simp
      have hax := put8_but v3 (Wb.heap.size) (.int .i64 4) (.int .i64 0) (.int .i64 0) (.int .i64 0) (.slice A4 Ex.length k4) (.slice none 0 0) (.int .i64 a) (.int .i64 0)
      have hbz := unhide HBX0
      refine hK.out _ _ ⟨⟨(hax.cell x0 0 (by omega) (by omega)).trans hH3.1.1, (hax.cell x0 2 (by omega) (by omega)).trans hH3.1.2⟩, (hax.cell x0 3 (by omega) (by omega)).trans hH3.2.1, (hax.cell x0 5 (by omega) (by omega)).trans hH3.2.2.1, (hax.cell 0 4 (by omega) (by omega)).trans hH3.2.2.2⟩ (fun hH4 => ?_)
      clear hK Kx
      refine wpAnyH_done (by kernel_rfl) ?_ _
      go_wp2_with fail
      go_meet
      exact ⟨_, lab2, G2, k2, _, _, cs2, A4, k4, rfl, (unhide HSt).fin1 (unhide HBx) (unhide HBX0) (unhide HXa) hX2.1 hX2.2 4 0 a⟩
    · skip
      go_simp
      refine (unhide HCl _ (unhide HSt).lo).mono ?_
      rintro e v5 ⟨u4, rfl, hu4, hbx⟩
      obtain ⟨A4, k4, rfl⟩ := hu4.slice
      have hzw := (unhide HSt).bt.size
      refine hK.out _ _ ⟨⟨(hbx.cell (p := ⟨x0, 0, none⟩) (by dsimp only; omega)).trans hH0.1.1, (hbx.cell (p := ⟨x0, 2, none⟩) (by dsimp only; omega)).trans hH0.1.2⟩, (hbx.cell (p := ⟨x0, 3, none⟩) (by dsimp only; omega)).trans hH0.2.1, (hbx.cell (p := ⟨x0, 5, none⟩) (by dsimp only; omega)).trans hH0.2.2.1, (hbx.cell (p := ⟨0, 4, none⟩) (by dsimp only; omega)).trans hH0.2.2.2⟩ (fun hH5 => ?_)
      replace HSt := hide ((unhide HSt).clone hbx hu4)
      clear hK Kx hu4 hbx hzw
      refine wpAnyH_ready (rs := [14, 16]) (by kernel_rfl) (by simp) ?_
      refine AllReadyH.cons rfl (fun Kx hK => ?_) (AllReadyH.cons rfl (fun Kx hK => ?_) AllReadyH.nil)
      rotate_left
      · skip
        go_simp
        have hzw := (unhide HSt).a.bt.size
        have hax := bA (Below.refl v5.heap.size v5) (.cells #[.int .i64 0, .int .i64 0, .int .i64 0, .int .i64 0, .slice none 0 0, .slice none 0 0, .int .i64 0, .int .i64 0] 67)
        refine hK.out _ _ ⟨⟨(hax.cell (p := ⟨x0, 0, none⟩) (by dsimp only; omega)).trans hH5.1.1, (hax.cell (p := ⟨x0, 2, none⟩) (by dsimp only; omega)).trans hH5.1.2⟩, (hax.cell (p := ⟨x0, 3, none⟩) (by dsimp only; omega)).trans hH5.2.1, (hax.cell (p := ⟨x0, 5, none⟩) (by dsimp only; omega)).trans hH5.2.2.1, (hax.cell (p := ⟨0, 4, none⟩) (by dsimp only; omega)).trans hH5.2.2.2⟩ (fun hH6 => ?_)
        replace HSt := hide ((unhide HSt).of hax)
        have HBx := hide (Box8.made v5 (.int .i64 0) (.int .i64 0) (.int .i64 0) (.int .i64 0) (.slice none 0 0) (.slice none 0 0) (.int .i64 0) (.int .i64 0) 67)
        have HBX0 : Hid (Wb.heap.size ≤ v5.heap.size) := hzw
        skip
        clear hK Kx hax hzw
        refine wpAnyH_ready (rs := [14]) (by kernel_rfl) (by simp) ?_
        refine AllReadyH.cons rfl (fun Kx hK => ?_) AllReadyH.nil
        go_simp
        refine (unhide HIH _ (unhide HSt).a.ub (unhide HSt).a.gl (unhide HSt).a.lo).mono ?_
        rintro e v7 ⟨lab2, G2, k2, cs2, rfl, hU2, hL2, hl2, hBt2, hG2⟩
        have hzw := (unhide HSt).a.bt.size
        refine hK.out _ _ ⟨⟨(hBt2.cell x0 0 (by omega) (by omega)).trans hH6.1.1, (hBt2.cell x0 2 (by omega) (by omega)).trans hH6.1.2⟩, (hBt2.cell x0 3 (by omega) (by omega)).trans hH6.2.1, (hBt2.cell x0 5 (by omega) (by omega)).trans hH6.2.2.1, (hBt2.cell 0 4 (by omega) (by omega)).trans hH6.2.2.2⟩ (fun hH7 => ?_)
        obtain ⟨hP8, hXx⟩ := (unhide HSt).unn hU2 hL2 hl2 hBt2 hG2
        have hX2 := hXx _ (unhide HBX0) (unhide HBx).sz
        replace HBx := hide ((unhide HBx).butB hBt2 (by have := (unhide HBX0); omega))
        replace HSt := hide hP8
        clear hK Kx hU2 hL2 hl2 hBt2 hG2 hP8 hzw hXx
        refine tW 15 52 (.agg #[.int .i64 4, .int .i64 0, .int .i64 0, .int .i64 0, .slice A4 Ex.length k4, .slice none 0 0, .int .i64 a, .int .i64 0]) ?_
        simp only [puts]
        refine wpAnyH_ready (rs := [17]) (by kernel_rfl) (by simp) ?_
        refine AllReadyH.cons rfl (fun Kx hK => ?_) AllReadyH.nil
        have hzw := (unhide HSt).bt.size
        obtain ⟨d0, d1, d2, d3, d4, d5, d6, d7, df, ds⟩ := id (unhide HBx)
        go_simp
        have hax := put8_but v7 (v5.heap.size) (.int .i64 4) (.int .i64 0) (.int .i64 0) (.int .i64 0) (.slice A4 Ex.length k4) (.slice none 0 0) (.int .i64 a) (.int .i64 0)
        have hbz := unhide HBX0
        refine hK.out _ _ ⟨⟨(hax.cell x0 0 (by omega) (by omega)).trans hH7.1.1, (hax.cell x0 2 (by omega) (by omega)).trans hH7.1.2⟩, (hax.cell x0 3 (by omega) (by omega)).trans hH7.2.1, (hax.cell x0 5 (by omega) (by omega)).trans hH7.2.2.1, (hax.cell 0 4 (by omega) (by omega)).trans hH7.2.2.2⟩ (fun hH8 => ?_)
        clear hK Kx
        refine wpAnyH_done (by kernel_rfl) ?_ _
        go_wp2_with fail
        go_meet
        exact ⟨_, lab2, G2, k2, _, _, cs2, A4, k4, rfl, (unhide HSt).fin1 (unhide HBx) (unhide HBX0) (by omega) hX2.1 hX2.2 4 0 a⟩
      · skip
        go_simp
        refine (unhide HIH _ (unhide HSt).a.ub (unhide HSt).a.gl (unhide HSt).a.lo).mono ?_
        rintro e v9 ⟨lab2, G2, k2, cs2, rfl, hU2, hL2, hl2, hBt2, hG2⟩
        have hzw := (unhide HSt).a.bt.size
        refine hK.out _ _ ⟨⟨(hBt2.cell x0 0 (by omega) (by omega)).trans hH5.1.1, (hBt2.cell x0 2 (by omega) (by omega)).trans hH5.1.2⟩, (hBt2.cell x0 3 (by omega) (by omega)).trans hH5.2.1, (hBt2.cell x0 5 (by omega) (by omega)).trans hH5.2.2.1, (hBt2.cell 0 4 (by omega) (by omega)).trans hH5.2.2.2⟩ (fun hH9 => ?_)
        obtain ⟨hP8, hXx⟩ := (unhide HSt).unn hU2 hL2 hl2 hBt2 hG2
        replace HSt := hide hP8
        clear hK Kx hU2 hL2 hl2 hBt2 hG2 hP8 hzw hXx
        refine tW 15 52 (.agg #[.int .i64 4, .int .i64 0, .int .i64 0, .int .i64 0, .slice A4 Ex.length k4, .slice none 0 0, .int .i64 a, .int .i64 0]) ?_
        simp only [puts]
        refine wpAnyH_ready (rs := [16]) (by kernel_rfl) (by simp) ?_
        refine AllReadyH.cons rfl (fun Kx hK => ?_) AllReadyH.nil
        go_simp
        have hzw := (unhide HSt).bt.size
        have hax := bA (Below.refl v9.heap.size v9) (.cells #[.int .i64 0, .int .i64 0, .int .i64 0, .int .i64 0, .slice none 0 0, .slice none 0 0, .int .i64 0, .int .i64 0] 67)
        refine hK.out _ _ ⟨⟨(hax.cell (p := ⟨x0, 0, none⟩) (by dsimp only; omega)).trans hH9.1.1, (hax.cell (p := ⟨x0, 2, none⟩) (by dsimp only; omega)).trans hH9.1.2⟩, (hax.cell (p := ⟨x0, 3, none⟩) (by dsimp only; omega)).trans hH9.2.1, (hax.cell (p := ⟨x0, 5, none⟩) (by dsimp only; omega)).trans hH9.2.2.1, (hax.cell (p := ⟨0, 4, none⟩) (by dsimp only; omega)).trans hH9.2.2.2⟩ (fun hH10 => ?_)
        clear hK Kx hax hzw
        refine wpAnyH_ready (rs := [17]) (by kernel_rfl) (by simp) ?_
        refine AllReadyH.cons rfl (fun Kx hK => ?_) AllReadyH.nil
        have hzw := (unhide HSt).bt.size
        go_simp
        have hax := bA (Below.refl v9.heap.size v9) (.cells #[.int .i64 4, .int .i64 0, .int .i64 0, .int .i64 0, .slice A4 Ex.length k4, .slice none 0 0, .int .i64 a, .int .i64 0] 67)
        refine hK.out _ _ ⟨⟨(hax.cell (p := ⟨x0, 0, none⟩) (by dsimp only; omega)).trans hH9.1.1, (hax.cell (p := ⟨x0, 2, none⟩) (by dsimp only; omega)).trans hH9.1.2⟩, (hax.cell (p := ⟨x0, 3, none⟩) (by dsimp only; omega)).trans hH9.2.1, (hax.cell (p := ⟨x0, 5, none⟩) (by dsimp only; omega)).trans hH9.2.2.1, (hax.cell (p := ⟨0, 4, none⟩) (by dsimp only; omega)).trans hH9.2.2.2⟩ (fun hH11 => ?_)
        clear hK Kx
        refine wpAnyH_done (by kernel_rfl) ?_ _
        go_wp2_with fail
        go_meet
        exact ⟨_, lab2, G2, k2, _, _, cs2, A4, k4, rfl, (unhide HSt).fin2 4 0 a _⟩
  case rest =>
    obtain ⟨X, lab2, G2, k2, a1, az, cs2, A4, k4, rfl, h8⟩ := hcut
    have hAl := (unhide HA0).lo
    have hUl' := hUl
    have hlo : Below w0.heap.size w0 wc := h8.bt.low2 hAl (by omega) hUl
    have hg2l := h8.gl.lt
    have hra := h8.ra
    have hg2 := h8.g2
    have hxg := h8.xg
    have hb8 := h8.bt.size
    replace n0 := (h8.bt.cell x0 0 zx (by omega)).trans n0
    replace n1 := (h8.bt.cell x0 1 zx (by omega)).trans n1
    replace n2 := (h8.bt.cell x0 2 zx (by omega)).trans n2
    replace n3 := (h8.bt.cell x0 3 zx (by omega)).trans n3
    replace n4 := (h8.bt.cell x0 4 zx (by omega)).trans n4
    replace n5 := (h8.bt.cell x0 5 zx (by omega)).trans n5
    replace n6 := (h8.bt.cell x0 6 zx (by omega)).trans n6
    have f0 : wc.cell? ⟨1, 32, none⟩ = some (.bool false) := (((unhide HTp).of hlo).cell 32).trans rfl
    have f1 : wc.cell? ⟨1, 33, none⟩ = some (.bool false) := (((unhide HTp).of hlo).cell 33).trans rfl
    have f2 : wc.cell? ⟨1, 34, none⟩ = some (.bool false) := (((unhide HTp).of hlo).cell 34).trans rfl
    have f3 : wc.cell? ⟨1, 35, none⟩ = some (.bool true) := (((unhide HTp).of hlo).cell 35).trans rfl
    have f4 : wc.cell? ⟨1, 36, none⟩ = some (.bool true) := (((unhide HTp).of hlo).cell 36).trans rfl
    have f5 : wc.cell? ⟨1, 37, none⟩ = some (.bool false) := (((unhide HTp).of hlo).cell 37).trans rfl
    have f6 : wc.cell? ⟨1, 38, none⟩ = some (.bool false) := (((unhide HTp).of hlo).cell 38).trans rfl
    have f7 : wc.cell? ⟨1, 39, none⟩ = some (.bool false) := (((unhide HTp).of hlo).cell 39).trans rfl
    have fm : wc.cell? ⟨2, 39, none⟩ = some (.bool false) := (((unhide HTf).of hlo).cell 39).trans rfl
    have fps : 1 < wc.heap.size := Nat.lt_of_lt_of_le tps hlo.size
    have ffs : 2 < wc.heap.size := Nat.lt_of_lt_of_le tfs hlo.size
    have zxc : x0 < wc.heap.size := by omega
    obtain ⟨d0, d1, d2, d3, d4, d5, d6, d7, df, ds⟩ := id h8.box
    have H8 := hide h8
    have HLo := hide hlo
    clear h8 hlo hAl HA0 HIH HCl tk0
    have hx := bA (Below.refl wc.heap.size wc) (.cells #[.bool false, .bool false, .bool false, .bool true, .bool true, .bool false, .bool false, .bool false] 141)
    have hxz : (wc.alloc (.cells #[.bool false, .bool false, .bool false, .bool true, .bool true, .bool false, .bool false, .bool false] 141)).heap.size = wc.heap.size + 1 := by simp
    go_upto_region 11 with fail
    replace n0 := (hx.cell (p := ⟨x0, 0, none⟩) zxc).trans n0
    replace n1 := (hx.cell (p := ⟨x0, 1, none⟩) zxc).trans n1
    replace n2 := (hx.cell (p := ⟨x0, 2, none⟩) zxc).trans n2
    replace n3 := (hx.cell (p := ⟨x0, 3, none⟩) zxc).trans n3
    replace n4 := (hx.cell (p := ⟨x0, 4, none⟩) zxc).trans n4
    replace n5 := (hx.cell (p := ⟨x0, 5, none⟩) zxc).trans n5
    replace n6 := (hx.cell (p := ⟨x0, 6, none⟩) zxc).trans n6
    replace fm := (hx.cell (p := ⟨2, 39, none⟩) ffs).trans fm
    have HUd := hide ((unhide H8).ub.of hx)
    have HLd := hide ((unhide H8).gl.of hx)
    have HEd := hide ((unhide H8).ex.of hx)
    have HXd := hide ((unhide H8).box.of hx)
    have HLod := hide ((unhide HLo).trans (hx.mono (unhide HLo).size))
    have HBd : Hid (ButB (fun b => b = G ∨ b = U) W (wc.alloc (.cells #[.bool false, .bool false, .bool false, .bool true, .bool true, .bool false, .bool false, .bool false] 141))) := ((ButB.ofBelow (unhide HX)).trans (unhide H8).bt).trans (ButB.ofBelow hx)
    have HFr := hide (unhide H8).fr
    have HXl := hide (unhide H8).xl
    have HLl := hide (unhide H8).ll
    have HNl : Hid (∀ b, (lab2 b).1 ≤ 2 → b < wc.heap.size) := fun b h => ((unhide H8).gl.rng b h).2.1
    have hXz : X < wc.heap.size := (unhide H8).box.sz
    have g6 : (wc.alloc (.cells #[.bool false, .bool false, .bool false, .bool true, .bool true, .bool false, .bool false, .bool false] 141)).cell? ⟨wc.heap.size, 6, none⟩ = some (.bool false) := by simp [go_sem]
    have g5 : (wc.alloc (.cells #[.bool false, .bool false, .bool false, .bool true, .bool true, .bool false, .bool false, .bool false] 141)).cell? ⟨wc.heap.size, 5, none⟩ = some (.bool false) := by simp [go_sem]
    clear d0 d1 d2 d3 d4 d5 d6 d7 df ds f0 f1 f2 f3 f4 f5 f6 f7 HLo H8
    obtain ⟨xz, hxz2⟩ : ∃ xz, wc.heap.size = xz := ⟨_, rfl⟩
    rw [hxz2] at g6 g5 hXz
    generalize (wc.alloc (.cells #[.bool false, .bool false, .bool false, .bool true, .bool true, .bool false, .bool false, .bool false] 141)) = wd at *
    rw [hxz2]
    have zxd : x0 < wd.heap.size := by omega
    have ffd : 2 < wd.heap.size := by omega
    have xzd : xz < wd.heap.size := by omega
    have hxx := (unhide HXd).sz
    clear hx hxz2
    refine wp_region_held_drew (S := fun W' => W'.cell? ⟨x0, 4, none⟩ = some (.slice (some ⟨b4, 0, none⟩) Exs.length Exs.length) ∧ W'.cell? ⟨x0, 4, none⟩ = some (.slice (some ⟨b4, 0, none⟩) Exs.length Exs.length)) (by kernel_rfl) ⟨n4, n4⟩ (fun hHeld => ?_)
    refine tW 0 59 (.int .i64 w) ?_
    simp only [puts]
    refine tW 2 61 (.pointer (some ⟨x0, 4, none⟩)) ?_
    simp only [puts]
    refine tW 3 62 (.slice (some ⟨b4, 0, none⟩) Exs.length Exs.length) ?_
    simp only [puts]
    refine wpAnyH_ready (rs := [1]) (by kernel_rfl) (by simp) ?_
    refine AllReadyH.cons rfl (fun Kx hK => ?_) AllReadyH.nil
    go_simp
    refine (unhide HEx _).mono ?_
    rintro e wa ⟨Ga, lba, rfl, hga, hFa, hOa, hba⟩
    have hba' : Below wd.heap.size wd wa := bT (Below.drew (Below.refl _ _)) hba
    have ga : wd.heap.size ≤ Ga := hga
    have ga2 := hFa.size
    have na4 := (hba'.cell (p := ⟨x0, 4, none⟩) zxd).trans n4
    refine hK.out _ _ ⟨na4, na4⟩ (fun hHeld2 => ?_)
    clear hK Kx hHeld hba
    refine wpAnyH_ready (rs := [4]) (by kernel_rfl) (by simp) ?_
    refine AllReadyH.cons rfl (fun Kx hK => ?_) AllReadyH.nil
    go_simp
    refine (unhide HO4 wa ((unhide HLod).trans (hba'.mono (unhide HLod).size))).mono ?_
    rintro e we ⟨Gc, lbc, rfl, hgc, hFc, hOc, hbc⟩
    have zc := hbc.size
    have za := hba'.size
    have nc4 := (hbc.cell (p := ⟨x0, 4, none⟩) (by dsimp only; omega)).trans na4
    refine hK.out _ _ ⟨nc4, nc4⟩ (fun hHeld3 => ?_)
    clear hK Kx hHeld2
    have hd4 := bT hba' hbc
    obtain ⟨hsa, la, own1, gra⟩ := (hFa.of hbc).owns (s := wd.heap.size) ga (by omega)
    obtain ⟨hsc, lc, -, grc⟩ := hFc.owns (s := wd.heap.size) (by omega) (by omega)
    have eqa : ∀ (i : Nat) u xs, hsa[i]? = some u → (colExs w.toNat)[i]? = some xs → OpsM we u xs (fun b => wd.heap.size ≤ b ∧ b ≠ Ga ∧ b < we.heap.size ∧ (fun b => if b < wa.heap.size then lba b else w.toNat + lbc b) b = i) := fun i u xs h1 h2 => by
      obtain ⟨u', hu', ho⟩ := hOa i xs h2
      have e := (gra i u h1).symm.trans ((hbc.cell (p := ⟨Ga, i, none⟩) ga2).trans hu')
      obtain rfl := Option.some.inj e
      exact (ho.mono (T := fun b => wd.heap.size ≤ b ∧ b ≠ Ga ∧ b < we.heap.size ∧ (fun b => if b < wa.heap.size then lba b else w.toNat + lbc b) b = i) (fun b hb e => ⟨by omega, by omega, by omega, by dsimp only; rw [if_pos hb]; exact e.2⟩)).of hbc
    have eqc : ∀ (i : Nat) u xs, hsc[i]? = some u → Exs[i]? = some xs → OpsM we u xs (fun b => wd.heap.size ≤ b ∧ b ≠ Ga ∧ b < we.heap.size ∧ (fun b => if b < wa.heap.size then lba b else w.toNat + lbc b) b = w.toNat + i) := fun i u xs h1 h2 => by
      obtain ⟨u', hu', ho⟩ := hOc i xs h2
      obtain rfl := Option.some.inj ((grc i u h1).symm.trans hu')
      exact ho.mono (fun b hb e => ⟨by omega, by omega, hb, by dsimp only; rw [if_neg (by omega), e.2]⟩)
    have one2 : ∀ u ∈ hsc, u.oneCell' = true := fun u hu => by
      obtain ⟨jj, hjj, rfl⟩ := List.mem_iff_getElem.1 hu
      obtain ⟨ya, yc, hy⟩ := (eqc jj _ _ (List.getElem?_eq_getElem hjj) (List.getElem?_eq_getElem (by omega))).slice
      rw [hy]; rfl
    refine wpAnyH_ready (rs := [5]) (by kernel_rfl) (by simp) ?_
    refine AllReadyH.cons rfl (fun Kx hK => ?_) AllReadyH.nil
    refine step_append_any rfl (.tmp 60) (.tmp 63) 65 rfl wd.heap.size 64 ie _ 24 Tryz.underlying65 hie hy0 hy1 hy2 rfl Ga w.toNat w.toNat hsa rfl own1 Gc Exs.length Exs.length hsc rfl lc grc one2 (by unfold maxLen; omega) (by omega) (by omega) ?_
    intro GE kE w7 hownE hgrE hatE
    have hO5 := join2 (s := wd.heap.size) (G := Ga) (lbx := (fun b => if b < wa.heap.size then lba b else w.toNat + lbc b)) (hs1 := hsa) (hs2 := hsc) (o1 := colExs w.toNat) (o2 := Exs) la lc (colExs_length _) rfl ga (by omega) eqa eqc hownE hgrE hatE
    have hBE : ButB (fun b => b = Ga) we w7 := ButB.grown hgrE (fun b e => by simpa using e.symm)
    have zE := hBE.size
    have nE4 := (hBE.cell x0 4 (by omega) (by omega)).trans nc4
    have HX7 := hide (((unhide HXd).of hd4).butB hBE (by omega))
    have HU7 := hide (((unhide HUd).of hd4).butB hBE (by omega))
    have HL7 := hide (((unhide HLd).of hd4).butB hBE (by omega) (fun b h e => by have := unhide HNl b h; omega))
    have HE7 := hide (((unhide HEd).of hd4).butB hBE (fun b e e' => by omega))
    have HO7 := hide hO5
    have HB7 : Hid (ButB (fun b => b = G ∨ b = U) W w7) := ((unhide HBd).trans (ButB.ofBelow hd4)).trans' hBE (fun b e => by rw [unhide HX0]; omega)
    have g67 := (hBE.cell xz 6 (by omega) (by omega)).trans ((hd4.cell (p := ⟨xz, 6, none⟩) xzd).trans g6)
    have g57 := (hBE.cell xz 5 (by omega) (by omega)).trans ((hd4.cell (p := ⟨xz, 5, none⟩) xzd).trans g5)
    have fm7 := (hBE.cell 2 39 (by omega) (by omega)).trans ((hd4.cell (p := ⟨2, 39, none⟩) ffd).trans fm)
    have gE : GE = Ga ∨ we.heap.size ≤ GE := hatE.imp id (fun e => by omega)
    refine hK.out _ _ ⟨nE4, nE4⟩ (fun hHeld4 => ?_)
    clear hK Kx hHeld3 own1 one2 hownE hgrE hatE hO5 hBE hd4 hba' hbc hFa hOa hFc hOc eqa eqc gra grc
    obtain ⟨d0, d1, d2, d3, d4, d5, d6, d7, df, ds⟩ := id (unhide HX7)
    refine takeW 6 65 (.pointer (some ⟨X, 5, none⟩)) rfl rfl (by kernel_rfl) (by kernel_rfl) (by kernel_rfl) (fun _ _ _ h => h) rfl (fun wx hSw => by obtain ⟨hs1, hs2⟩ := hSw; go_simp) (by assumption) ?_
    refine wpAnyH_ready (rs := [7]) (by kernel_rfl) (by simp) ?_
    refine AllReadyH.cons rfl (fun Kx hK => ?_) AllReadyH.nil
    go_simp
    refine hK.out _ _ ⟨?_, ?_⟩ (fun hHeld5 => ?_)
    · exact (setCell_farN (by omega)).trans nE4
    · exact (setCell_farN (by omega)).trans nE4
    clear hK Kx
    refine wpAnyH_done (by kernel_rfl) ?_ _
    clear hHeld4 hHeld5
    have hBx : ButB (fun b => b = X) w7 (w7.setCell ⟨X, 5, none⟩ (.slice (some ⟨GE, 0, none⟩) (w.toNat + Exs.length) kE)) := ButB.set (S := fun b => b = X) (ButB.refl _ _) (Or.inl rfl) _
    obtain ⟨t0, t1, t2, t3, t4, t5, t6, t7⟩ := (fun Q (hQ : (w7.setCell ⟨X, 5, none⟩ (.slice (some ⟨GE, 0, none⟩) (w.toNat + Exs.length) kE)) = Q) => (by subst hQ; exact ⟨(setCell_otherN (by omega)).trans d0, (setCell_otherN (by omega)).trans d1, (setCell_otherN (by omega)).trans d2, (setCell_otherN (by omega)).trans d3, (setCell_otherN (by omega)).trans d4, World.cell?_setCell_same _ _ _ d5, (setCell_otherN (by omega)).trans d6, (setCell_otherN (by omega)).trans d7⟩ : Q.cell? ⟨X, 0, none⟩ = some (.int .i64 4) ∧ Q.cell? ⟨X, 1, none⟩ = some (.int .i64 0) ∧ Q.cell? ⟨X, 2, none⟩ = some (.int .i64 0) ∧ Q.cell? ⟨X, 3, none⟩ = some (.int .i64 0) ∧ Q.cell? ⟨X, 4, none⟩ = some (.slice A4 Ex.length k4) ∧ Q.cell? ⟨X, 5, none⟩ = some (.slice (some ⟨GE, 0, none⟩) (w.toNat + Exs.length) kE) ∧ Q.cell? ⟨X, 6, none⟩ = some (.int .i64 a) ∧ Q.cell? ⟨X, 7, none⟩ = some (.int .i64 0))) _ rfl
    have HU8 := hide ((unhide HU7).butB hBx (by omega))
    have HL8 := hide ((unhide HL7).butB hBx (by omega) (fun b h e => by subst e; exact unhide HXl h))
    have HE8 := hide ((unhide HE7).butB hBx (fun b e e' => by omega))
    have HO8 := hide (((unhide HO7).butB hBx (fun b e => by omega) (fun _ b e => by omega)).mono (To := fun b => wd.heap.size ≤ b ∧ b < (w7.setCell ⟨X, 5, none⟩ (.slice (some ⟨GE, 0, none⟩) (w.toNat + Exs.length) kE)).heap.size ∧ b = GE) (Ti := fun i b => wd.heap.size ≤ b ∧ b < (w7.setCell ⟨X, 5, none⟩ (.slice (some ⟨GE, 0, none⟩) (w.toNat + Exs.length) kE)).heap.size ∧ b ≠ GE ∧ (fun b => if b < wa.heap.size then lba b else w.toNat + lbc b) b = i) (fun b hb e => ⟨e.1, hb, e.2⟩) (fun i b hb e => ⟨e.1, hb, e.2⟩))
    have HB8 : Hid (ButB (fun b => b = G ∨ b = U) W (w7.setCell ⟨X, 5, none⟩ (.slice (some ⟨GE, 0, none⟩) (w.toNat + Exs.length) kE))) := (unhide HB7).trans' hBx (fun b e => by rw [unhide HX0]; omega)
    replace g67 := (hBx.cell xz 6 (by omega) (by omega)).trans g67
    replace g57 := (hBx.cell xz 5 (by omega) (by omega)).trans g57
    replace fm7 := (hBx.cell 2 39 (by omega) (by omega)).trans fm7
    have s8 : (w7.setCell ⟨X, 5, none⟩ (.slice (some ⟨GE, 0, none⟩) (w.toNat + Exs.length) kE)).heap.size = w7.heap.size := by simp
    clear hBx HU7 HL7 HE7 HO7 HB7 HX7 d0 d1 d2 d3 d4 d5 d6 d7 df ds n0 n1 n2 n3 n4 n5 n6 nE4 na4 nc4 fm
    generalize (w7.setCell ⟨X, 5, none⟩ (.slice (some ⟨GE, 0, none⟩) (w.toNat + Exs.length) kE)) = w8 at *
    have ds8 : X < w8.heap.size := by omega
    have ff8 : 2 < w8.heap.size := by omega
    have xz8 : xz < w8.heap.size := by omega
    have HAdd := hide (add_calls 4 0 0 0 a 0 Ex (colExs w.toNat ++ Exs) A4 (some ⟨GE, 0, none⟩) Ex.length (w.toNat + Exs.length) k4 kE U G2 k2 r.length lab2 cs2 r (.slice (some ⟨g, 0, none⟩) ps.length cap) (.slice (some ⟨bw, 0, none⟩) ps.length ps.length) w8 a1 az wd.heap.size w8.heap.size GE (fun b => if b < wa.heap.size then lba b else w.toNat + lbc b) (unhide HU8) (unhide HL8) hr5 (unhide HFr) (fun x h1 _ h3 => by have := unhide HNl x h3; omega) (fun _ => ⟨by omega, by omega, by omega⟩) (fun _ => ⟨by omega, by omega, by omega⟩) (fun _ _ => Or.inl (by omega)) (unhide HE8) (unhide HO8))
    have HS8 := hide s8
    clear s8 HU8 HL8 HE8 HO8
    go_wp2_with fail
    refine (unhide HAdd).mono ?_; rintro e w9 ⟨G3, k3, rfl, hU3, hL3, hBt3, hG3⟩
    have s8 := unhide HS8
    have HU3 := hide hU3; have HL3 := hide hL3
    have HB3 : Hid (ButB (fun b => b = G ∨ b = U) W w9) := (unhide HB8).trans' hBt3 (fun b e => by rw [unhide HX0]; omega)
    have hG3' : G3 = G ∨ x0 ≤ G3 := by omega
    have HLw : Hid (∀ x, x < x0 → labP lab2 r.length a1 az wd.heap.size w8.heap.size GE (fun b => if b < wa.heap.size then lba b else w.toNat + lbc b) x = lab x) := fun x hx => (labP_low (s := x0) (fun _ => by omega) (fun _ => by omega) x hx).trans (unhide HLl x (by omega))
    clear hU3 hL3 hBt3 HAdd s8 HS8 t0 t1 t2 t3 t4 t5 t6 t7
    go_wp2
    go_ret
    have hlr : (r ++ [(⟨4, 0, 0, 0, Ex, colExs w.toNat ++ Exs, a, 0⟩ : Fn)]).length = r.length + 1 := by simp
    exact ⟨_, G3, k3, _, by first | rfl | simp [go_sem], by rw [hlr]; exact unhide HU3, by rw [hlr]; exact unhide HL3, by rw [unhide HX0]; exact unhide HLw, unhide HB3, by rw [unhide HX0]; exact hG3'⟩
end Go.Proofs.YtnchcndcinpalaaGreatDoor
