import Derived.Test.YtnchcndcinpalaaGreatDoorQ14
namespace Go.Proofs.YtnchcndcinpalaaGreatDoor
open Go Go.RowKit
set_option maxRecDepth 100000 in
set_option maxHeartbeats 8000000 in
theorem U_9 (ts : List Tb) (ps : List Pn) (g cap gt capt : Nat) (w0 : World) (f i : Nat) (H : UHyp ts ps g cap gt capt w0 f i) (hi : i < ps.length) (hif : i ≤ f) (hK : (ps[i]).K = 9) (d w : Int) (out : List Fn) (G c : Nat) (cs : List Value) (lab : Lb) (W : World) (hw0 : 0 ≤ w) (hw : 0 ≤ wid ts ps i w) (hL : GrowL W lab w0.heap.size G c out.length cs out) (hB : Below w0.heap.size w0 W) (hlen : out.length + 2 * szP ps i ≤ 5000) :
    Calls Tryz.prog 44 #[.agg #[.slice (some ⟨g, 0, none⟩) ps.length cap], .agg #[.slice (some ⟨gt, 0, none⟩) ts.length capt], .int .i64 (i : Int), .int .i64 d, .int .i64 w, .slice (some ⟨G, 0, none⟩) out.length c] W (UPost ts ps w0 (f + 1) i d w out G lab W) := by
  have hp : ps[i]? = some ps[i] := List.getElem?_eq_getElem hi
  have _u := And.intro hif (And.intro hw0 hlen)
  clear _u
  obtain ⟨ii, hii, hz⟩ := Option.map_eq_some_iff.1 (show (Tryz.prog.info? 67).map (fun i => (i.zero, i.size, i.bytes)) = some (some (.agg #[.int .i64 0, .int .i64 0, .int .i64 0, .int .i64 0, .slice none 0 0, .slice none 0 0, .int .i64 0, .int .i64 0]), 8, 96) by kernel_rfl)
  simp only [Prod.mk.injEq] at hz
  obtain ⟨hz0, hz1, hz2⟩ := hz
  obtain ⟨e0, e1, e2, e5, e6, ⟨b3, e3, _, h3s, ho3⟩, b4, e4, _, h4s, ho4⟩ := H.base.hn.at i hi
  simp only [Nat.zero_add] at e0 e1 e2 e3 e4 e5 e6
  have hg0 := H.base.hg
  have c0 := (hB.cell (p := ⟨g, i * 7, none⟩) hg0).trans e0
  have c1 := (hB.cell (p := ⟨g, i * 7 + 1, none⟩) hg0).trans e1
  have c2 := (hB.cell (p := ⟨g, i * 7 + 2, none⟩) hg0).trans e2
  have c3 := (hB.cell (p := ⟨g, i * 7 + 3, none⟩) hg0).trans e3
  have c4 := (hB.cell (p := ⟨g, i * 7 + 4, none⟩) hg0).trans e4
  have c5 := (hB.cell (p := ⟨g, i * 7 + 5, none⟩) hg0).trans e5
  have c6 := (hB.cell (p := ⟨g, i * 7 + 6, none⟩) hg0).trans e6
  have q1 : g < W.heap.size := Nat.lt_of_lt_of_le hg0 hB.size
  have j1 : (i : Int) < (ps.length : Int) := by omega
  have hw2 := wid_w hw
  have hfew := H.base.few
  have hsp := szP_pos (ps := ps) i
  have hGl := hL.lt
  have hBs := hB.size
  clear e0 e1 e2 e3 e4 e5 e6
  obtain ⟨q, eL, eI, -, eS, eW⟩ := un_one H.base.good hi (arity_k.2.1 (by omega)) hw
  have hq : q < i := by omega
  have hqt : (ps[i]).L.toNat = q := by omega
  show Calls _ _ _ _ (UPostX w0 (uN ts ps (f + 1) i d w out).1 (uN ts ps (f + 1) i d w out).2 G lab W)
  rw [uN_9 hp hK, hqt]
  obtain ⟨r, a, hra⟩ : ∃ r a, uN ts ps f q d w out = (r, a) := ⟨_, _, rfl⟩
  have hrl := uN_len H.base.good f q (by omega) (by omega) d w out eW
  rw [hra] at hrl ⊢
  dsimp only at hrl ⊢
  have hr5 : r.length ≤ 5000 := by omega
  have HIH : Hid (∀ W1, GrowL W1 lab w0.heap.size G c out.length cs out → Below w0.heap.size w0 W1 → Calls Tryz.prog 44 #[.agg #[.slice (some ⟨g, 0, none⟩) ps.length cap], .agg #[.slice (some ⟨gt, 0, none⟩) ts.length capt], .int .i64 (q : Int), .int .i64 d, .int .i64 w, .slice (some ⟨G, 0, none⟩) out.length c] W1 (UPostX w0 r a G lab W1)) := fun W1 h1 h2 => by
    have h := H.ih q hq d w out G c cs lab W1 hw0 eW h1 h2 (by omega)
    unfold UPost at h
    rw [hra] at h
    exact h
  have HO3 := hide (fun W' (hb : Below w0.heap.size w0 W') => l4Copy_calls (ps[i]).Ex b3 0 (ps[i]).Ex.length W' (Nat.lt_of_lt_of_le h3s hb.size) (ho3.of h3s hb) (H.base.fit _ (List.getElem_mem hi)).1)
  generalize ps[i] = p at *
  obtain ⟨K, T, M, Ex, Exs, L, R⟩ := p
  simp only at c0 c1 c2 c3 c4 c5 c6 hK ho3 ho4 eL hqt HO3
  subst hK eL
  clear H ho3 ho4 hw hp h4s hra eW hqt eS eI hi
  go_enter Tryz.func44, Tryz.ntmps44
  go_upto_region 10 with fail
  have hb3 := bA (bA (bA (Below.refl W.heap.size W) (.cells #[.slice (some ⟨g, 0, none⟩) ps.length cap] 52)) (.cells #[.slice (some ⟨gt, 0, none⟩) ts.length capt] 38)) (.cells #[.int .i64 9, .int .i64 T, .int .i64 M, .slice (some ⟨b3, 0, none⟩) Ex.length Ex.length, .slice (some ⟨b4, 0, none⟩) Exs.length Exs.length, .int .i64 (q : Int), .int .i64 R] 130)
  obtain ⟨n0, n1, n2, n3, n4, n5, n6, pb0, db0, zs⟩ := (fun Q (hQ : (((W.alloc (.cells #[.slice (some ⟨g, 0, none⟩) ps.length cap] 52)).alloc (.cells #[.slice (some ⟨gt, 0, none⟩) ts.length capt] 38)).alloc (.cells #[.int .i64 9, .int .i64 T, .int .i64 M, .slice (some ⟨b3, 0, none⟩) Ex.length Ex.length, .slice (some ⟨b4, 0, none⟩) Exs.length Exs.length, .int .i64 (q : Int), .int .i64 R] 130)) = Q) => (by subst hQ; exact ⟨by simp [go_sem], by simp [go_sem], by simp [go_sem], by simp [go_sem], by simp [go_sem], by simp [go_sem], by simp [go_sem], by simp [go_sem], by simp [go_sem], by simp⟩ : Q.cell? ⟨W.heap.size + 1 + 1, 0, none⟩ = some (.int .i64 9) ∧ Q.cell? ⟨W.heap.size + 1 + 1, 1, none⟩ = some (.int .i64 T) ∧ Q.cell? ⟨W.heap.size + 1 + 1, 2, none⟩ = some (.int .i64 M) ∧ Q.cell? ⟨W.heap.size + 1 + 1, 3, none⟩ = some (.slice (some ⟨b3, 0, none⟩) Ex.length Ex.length) ∧ Q.cell? ⟨W.heap.size + 1 + 1, 4, none⟩ = some (.slice (some ⟨b4, 0, none⟩) Exs.length Exs.length) ∧ Q.cell? ⟨W.heap.size + 1 + 1, 5, none⟩ = some (.int .i64 (q : Int)) ∧ Q.cell? ⟨W.heap.size + 1 + 1, 6, none⟩ = some (.int .i64 R) ∧ Q.cell? ⟨W.heap.size, 0, none⟩ = some (.slice (some ⟨g, 0, none⟩) ps.length cap) ∧ Q.cell? ⟨W.heap.size + 1, 0, none⟩ = some (.slice (some ⟨gt, 0, none⟩) ts.length capt) ∧ Q.heap.size = W.heap.size + 3)) _ rfl
  have HLb := hide (hL.of hb3)
  have HBb := hide (hB.trans (hb3.mono hBs))
  have HB3 := hide hb3
  clear hL hb3 c0 c1 c2 c3 c4 c5 c6
  generalize (((W.alloc (.cells #[.slice (some ⟨g, 0, none⟩) ps.length cap] 52)).alloc (.cells #[.slice (some ⟨gt, 0, none⟩) ts.length capt] 38)).alloc (.cells #[.int .i64 9, .int .i64 T, .int .i64 M, .slice (some ⟨b3, 0, none⟩) Ex.length Ex.length, .slice (some ⟨b4, 0, none⟩) Exs.length Exs.length, .int .i64 (q : Int), .int .i64 R] 130)) = Wb at *
  obtain ⟨x0, hx0⟩ : ∃ x0, W.heap.size = x0 := ⟨_, rfl⟩
  have HX0 := hide hx0
  rw [hx0] at n0 n1 n2 n3 n4 n5 n6 pb0 db0 zs hBs hGl
  rw [hx0]
  clear hx0 q1
  have zs0 : x0 < Wb.heap.size := by omega
  have zs1 : x0 + 1 < Wb.heap.size := by omega
  have zs2 : x0 + 1 + 1 < Wb.heap.size := by omega
  clear zs
  go_wp2_with fail
  refine (unhide HIH Wb (unhide HLb) (unhide HBb)).mono ?_; rintro e w2 ⟨lab2, G2, k2, cs2, rfl, hL2, hl2, hBt2, hG2⟩
  replace n0 := (hBt2.cell (x0 + 1 + 1) 0 zs2 (by omega)).trans n0
  replace n1 := (hBt2.cell (x0 + 1 + 1) 1 zs2 (by omega)).trans n1
  replace n2 := (hBt2.cell (x0 + 1 + 1) 2 zs2 (by omega)).trans n2
  replace n3 := (hBt2.cell (x0 + 1 + 1) 3 zs2 (by omega)).trans n3
  replace n4 := (hBt2.cell (x0 + 1 + 1) 4 zs2 (by omega)).trans n4
  replace n5 := (hBt2.cell (x0 + 1 + 1) 5 zs2 (by omega)).trans n5
  replace n6 := (hBt2.cell (x0 + 1 + 1) 6 zs2 (by omega)).trans n6
  replace pb0 := (hBt2.cell x0 0 zs0 (by omega)).trans pb0
  replace db0 := (hBt2.cell (x0 + 1) 0 zs1 (by omega)).trans db0
  have HB2 := hide (hBt2.low (unhide HBb) hGl.2.1)
  have zb := hBt2.size
  have hG2' : G2 = G ∨ x0 + 3 ≤ G2 := hG2.imp id (fun e => by omega)
  have HLw2 : Hid (∀ x, x < x0 → lab2 x = lab x) := fun x hx => hl2 x (by omega)
  replace zs0 : x0 < w2.heap.size := by omega
  replace zs1 : x0 + 1 < w2.heap.size := by omega
  replace zs2 : x0 + 1 + 1 < w2.heap.size := by omega
  have x02 : x0 + 2 < w2.heap.size := by omega
  have hl2g := hL2.lt
  have HL2 := hide hL2
  have HBt2 : Hid (ButB (fun b => b = G) W w2) := (ButB.ofBelow (unhide HB3)).trans hBt2
  clear hL2 hl2 hBt2 hG2 HIH HLb HBb HB3
  go_wp2_with fail
  refine (unhide HO3 w2 (unhide HB2)).mono ?_; rintro e w3 ⟨u4, rfl, hu4, hb3⟩
  obtain ⟨ua, uc, rfl⟩ := hu4.slice
  replace n0 := (hb3.cell (p := ⟨x0 + 1 + 1, 0, none⟩) zs2).trans n0
  replace n1 := (hb3.cell (p := ⟨x0 + 1 + 1, 1, none⟩) zs2).trans n1
  replace n2 := (hb3.cell (p := ⟨x0 + 1 + 1, 2, none⟩) zs2).trans n2
  replace n3 := (hb3.cell (p := ⟨x0 + 1 + 1, 3, none⟩) zs2).trans n3
  replace n4 := (hb3.cell (p := ⟨x0 + 1 + 1, 4, none⟩) zs2).trans n4
  replace n5 := (hb3.cell (p := ⟨x0 + 1 + 1, 5, none⟩) zs2).trans n5
  replace n6 := (hb3.cell (p := ⟨x0 + 1 + 1, 6, none⟩) zs2).trans n6
  replace pb0 := (hb3.cell (p := ⟨x0, 0, none⟩) zs0).trans pb0
  replace db0 := (hb3.cell (p := ⟨x0 + 1, 0, none⟩) zs1).trans db0
  have y23 := hb3.size
  replace zs0 : x0 < w3.heap.size := by omega
  replace zs1 : x0 + 1 < w3.heap.size := by omega
  replace zs2 : x0 + 1 + 1 < w3.heap.size := by omega
  have HU4 := hide (hu4.mono (T := fun b => w2.heap.size ≤ b ∧ b < w3.heap.size) (fun b hb e => ⟨e, hb⟩))
  have HL3 := hide ((unhide HL2).of hb3)
  have HB23 := hide hb3
  have HFr : Hid (Free lab2 w2.heap.size w3.heap.size) := (unhide HL2).free
  clear hu4 hb3 HO3 HL2
  go_upto_region 37 with fail
  have hx4 := bA (Below.refl w3.heap.size w3) (.cells #[.int .i64 8, .int .i64 0, .int .i64 0, .int .i64 0, .slice ua Ex.length uc, .slice none 0 0, .int .i64 a, .int .i64 0] 67)
  have HL4 := hide ((unhide HL3).of (bA hx4 (.cells #[.int .i64 8, .int .i64 0, .int .i64 0, .int .i64 0, .slice ua Ex.length uc, .slice none 0 0, .int .i64 a, .int .i64 0] 67)))
  have HU4' := hide ((unhide HU4).of (bA hx4 (.cells #[.int .i64 8, .int .i64 0, .int .i64 0, .int .i64 0, .slice ua Ex.length uc, .slice none 0 0, .int .i64 a, .int .i64 0] 67)))
  have HX4 := hide hx4
  obtain ⟨m0, q0, q1, q2, q3, q4, q5, q6, q7⟩ := (fun Q (hQ : (w3.alloc (.cells #[.int .i64 8, .int .i64 0, .int .i64 0, .int .i64 0, .slice ua Ex.length uc, .slice none 0 0, .int .i64 a, .int .i64 0] 67)) = Q) => (by subst hQ; exact ⟨by simp, by simp [go_sem], by simp [go_sem], by simp [go_sem], by simp [go_sem], by simp [go_sem], by simp [go_sem], by simp [go_sem], by simp [go_sem]⟩ : Q.heap.size = w3.heap.size + 1 ∧ Q.cell? ⟨w3.heap.size, 0, none⟩ = some (.int .i64 8) ∧ Q.cell? ⟨w3.heap.size, 1, none⟩ = some (.int .i64 0) ∧ Q.cell? ⟨w3.heap.size, 2, none⟩ = some (.int .i64 0) ∧ Q.cell? ⟨w3.heap.size, 3, none⟩ = some (.int .i64 0) ∧ Q.cell? ⟨w3.heap.size, 4, none⟩ = some (.slice ua Ex.length uc) ∧ Q.cell? ⟨w3.heap.size, 5, none⟩ = some (.slice none 0 0) ∧ Q.cell? ⟨w3.heap.size, 6, none⟩ = some (.int .i64 a) ∧ Q.cell? ⟨w3.heap.size, 7, none⟩ = some (.int .i64 0))) _ rfl
  have hx5 : w3.heap.size < (w3.alloc (.cells #[.int .i64 8, .int .i64 0, .int .i64 0, .int .i64 0, .slice ua Ex.length uc, .slice none 0 0, .int .i64 a, .int .i64 0] 67)).heap.size := by omega
  have HM0 := hide m0
  clear hx4 m0 n0 n1 n2 n3 n4 n5 n6 pb0 db0 zs0 zs1 zs2 HL3 HU4
  generalize (w3.alloc (.cells #[.int .i64 8, .int .i64 0, .int .i64 0, .int .i64 0, .slice ua Ex.length uc, .slice none 0 0, .int .i64 a, .int .i64 0] 67)) = w4 at *
  have HNw : Hid (∀ j u, ([.int .i64 8, .int .i64 0, .int .i64 0, .int .i64 0, .slice ua Ex.length uc, .slice none 0 0, .int .i64 a, .int .i64 0] : List Value)[j]? = some u → (w4.alloc (.cells #[.int .i64 8, .int .i64 0, .int .i64 0, .int .i64 0, .slice ua Ex.length uc, .slice none 0 0, .int .i64 a, .int .i64 0] 67)).cell? ((⟨w4.heap.size, 0, none⟩ : Addr).add j) = some u) := World.news_of_block (cs := #[.int .i64 8, .int .i64 0, .int .i64 0, .int .i64 0, .slice ua Ex.length uc, .slice none 0 0, .int .i64 a, .int .i64 0]) (MapKept.heap_alloc w4 _).1
  go_wp2_with (at_builtin; refine wpList_append_lies _ rfl (.tmp 155) (.tmp 157) 30 rfl w0.heap.size 67 ii _ 8 96 Tryz.underlying30 hii hz0 hz1 hz2 rfl (by decide) (.slice (some ⟨G2, 0, none⟩) (r.length) k2) (r.length) cs2 rfl (unhide HL4).own ⟨w4.heap.size, 0, none⟩ 1 1 [.int .i64 8, .int .i64 0, .int .i64 0, .int .i64 0, .slice ua Ex.length uc, .slice none 0 0, .int .i64 a, .int .i64 0] rfl rfl (unhide HNw) (by intro u hu; simp at hu; rcases hu with rfl | rfl | rfl | rfl | rfl | rfl | rfl | rfl <;> rfl) (by decide) (by unfold maxLen; omega) (by omega) (by (try simp); omega) _ rfl ?_; intro G3 k3 w5 hown3 hgr3 hat3 hlt3)
  have hat3' : G3 = G2 ∨ G3 = (w4.alloc (.cells #[.int .i64 8, .int .i64 0, .int .i64 0, .int .i64 0, .slice ua Ex.length uc, .slice none 0 0, .int .i64 a, .int .i64 0] 67)).heap.size := hat3.imp (fun e => by simpa [Value.ownBlock] using e.symm) (fun e => e)
  have m0 := unhide HM0
  have HL5 := hide ((unhide HL4).push (p := ⟨8, 0, 0, 0, Ex, [], a, 0⟩) (a1 := w2.heap.size) (a2 := w3.heap.size) (a3 := 0) (a4 := 0) (G5 := 0) (lb := fun _ => 0) (unhide HFr) (fun x _ h2 => by omega) (fun _ => ⟨by omega, by simp; omega, by omega⟩) (fun h => by omega) (fun _ h => by omega) (unhide HU4') (Or.inl ⟨rfl, _, _, rfl⟩) hown3 hgr3 hat3')
  have HBt5 : Hid (ButB (fun b => b = G) W w5) := ((unhide HBt2).trans (ButB.ofBelow (bA (bT (unhide HB23) (unhide HX4)) _))).trans' (ButB.grown (S := fun b => b = G2) hgr3 (fun b e => by simpa [Value.ownBlock] using e.symm)) (fun b e => by subst e; rw [unhide HX0]; exact hG2'.imp id (fun h => by omega))
  have hG3 : G3 = G ∨ x0 ≤ G3 := by
    rcases hat3' with e | e
    · rw [e]; exact hG2'.imp id (fun h => by omega)
    · exact Or.inr (by rw [e]; simp; omega)
  have HLw5 : Hid (∀ x, x < x0 → labP lab2 r.length w2.heap.size w3.heap.size 0 0 0 (fun _ => 0) x = lab x) := fun x hx => (labP_low (s := x0) (fun _ => by omega) (fun h => by omega) x hx).trans (unhide HLw2 x hx)
  clear hown3 hgr3 hat3 hat3' HL4 HNw HU4' HM0 m0 q0 q1 q2 q3 q4 q5 q6 q7
  go_wp2
  go_ret2
  have hlr : (r ++ [(⟨8, 0, 0, 0, Ex, [], a, 0⟩ : Fn)]).length = r.length + 1 := by simp
  exact ⟨_, G3, k3, _, by rw [hlr]; first | rfl | simp [go_sem], by rw [hlr]; exact unhide HL5, by rw [unhide HX0]; exact unhide HLw5, unhide HBt5, by rw [unhide HX0]; exact hG3⟩
end Go.Proofs.YtnchcndcinpalaaGreatDoor
