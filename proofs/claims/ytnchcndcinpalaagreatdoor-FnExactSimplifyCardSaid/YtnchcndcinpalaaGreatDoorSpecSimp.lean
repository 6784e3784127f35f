import Derived.Test.YtnchcndcinpalaaGreatDoorQ22
import Derived.Test.YtnchcndcinpalaaGreatDoorSimpGrow
import Derived.Test.YtnchcndcinpalaaGreatDoorSpecFlat12
/-
  Simplify, as the specification makes it.
-/
namespace Go.Proofs.YtnchcndcinpalaaGreatDoor
open Go Go.RowKit

theorem asks_pos {ts : List Tb} {fs : List Fn} {Rt : Int} (hd : DbV ts) (hok : OkTo ts fs fs.length) {j : Nat} (hj : j < fs.length) (h : 0 < asksP ts fs Rt fs[j]) : ∃ (q m : Nat), (fs[j]).L = (q : Int) ∧ q < fs.length ∧ fw ts fs q = (m : Int) + 1 ∧ m ≤ 200 := by
  have h1 : ¬ ((fs[j]).K ≠ 3 ∨ kindF fs (fs[j]).L ≠ 6 ∨ (fs[j]).L = Rt ∨ users fs (fs[j]).L ≠ 1) := fun hc => by rw [asksP_0a hc] at h; omega
  have hK : (fs[j]).K = 3 := Classical.byContradiction fun hc => h1 (Or.inl hc)
  have h6 : kindF fs (fs[j]).L = 6 := Classical.byContradiction fun hc => h1 (Or.inr (Or.inl hc))
  have hF := (hok j hj hj).fld
  obtain ⟨_, _, _, _, _, _, hl, _⟩ := hF
  obtain ⟨a0, a1⟩ := hl (by rw [hK]; simp [oneK])
  have hq : (fs[j]).L.toNat < fs.length := by omega
  have hk : (fs[(fs[j]).L.toNat]).K = 6 := by simpa [kindF, hq] using h6
  have hN := hok _ hq hq
  have hw := fw_step hq hN.fld
  have hle := hN.wide
  have hst : stepF ts fs[(fs[j]).L.toNat] (fl ts fs fs[(fs[j]).L.toNat]) (fr ts fs fs[(fs[j]).L.toNat]) = fl ts fs fs[(fs[j]).L.toNat] + 1 := by unfold stepF; simp [hk]
  obtain ⟨_, _, _, _, _, _, hl2, _⟩ := hN.fld
  obtain ⟨b0, b1⟩ := hl2 (by rw [hk]; simp [oneK])
  have h0 : 0 ≤ fl ts fs fs[(fs[j]).L.toNat] := by
    unfold fl
    rw [if_pos (by rw [hk]; simp [oneK])]
    exact (fw_range hd _ hok _ (by omega) (by omega)).1
  exact ⟨(fs[j]).L.toNat, (fl ts fs fs[(fs[j]).L.toNat]).toNat, by omega, hq, by rw [hw, hst]; omega, by omega⟩
theorem OpssM.slice {w : World} {u : Value} {oss : List (List O2)} {So : Nat → Prop} {Si : Nat → Nat → Prop} (h : OpssM w u oss So Si) : ∃ a c, u = .slice a oss.length c := by
  rcases h with ⟨rfl, a, c, rfl⟩ | ⟨o, c, rfl, _⟩
  · exact ⟨a, c, rfl⟩
  · exact ⟨_, c, rfl⟩
/-- where the loop stands: k nodes are made -/
structure SL (w2 : World) (ts : List Tb) (fs : List Fn) (Rt : Int) (k G c : Nat) (cs : List Value) (wr : World) : Prop where
  gr : GrowF wr w2.heap.size (w2.heap.size + 2) G c k cs (simpTo ts fs Rt k)
  ne : G ≠ w2.heap.size + 1
  o0 : wr.cell? ⟨w2.heap.size + 1, 0, none⟩ = some (.slice (some ⟨G, 0, none⟩) k c)
  o1 : wr.cell? ⟨w2.heap.size + 1, 1, none⟩ = some (.int .i64 Rt)
  ofz : ∀ o, wr.frozen? ⟨w2.heap.size + 1, o, none⟩ = false
  low : Below w2.heap.size w2 wr
  sz : w2.heap.size + 2 ≤ wr.heap.size
theorem SL.of {w2 : World} {ts : List Tb} {fs : List Fn} {Rt : Int} {k G c : Nat} {cs : List Value} {wr w' : World} (h : SL w2 ts fs Rt k G c cs wr) (hb : Below wr.heap.size wr w') : SL w2 ts fs Rt k G c cs w' := by
  have hs := h.sz
  have ho : w2.heap.size + 1 < wr.heap.size := by omega
  exact ⟨h.gr.of hb, h.ne, (hb.cell (p := ⟨w2.heap.size + 1, 0, none⟩) ho).trans h.o0, (hb.cell (p := ⟨w2.heap.size + 1, 1, none⟩) ho).trans h.o1, fun o => (hb.frozen (p := ⟨w2.heap.size + 1, o, none⟩) ho).trans (h.ofz o), bT h.low hb, Nat.le_trans hs hb.size⟩

set_option maxRecDepth 100000 in
set_option maxHeartbeats 8000000 in
theorem sSimplify_calls (ts : List Tb) (fs : List Fn) (Rt : Int) (g cap gt capt : Nat) (w : World) (lt : ts.length ≤ 1048576) (hsm : SmallT ts) (fit : ∀ p ∈ fs, p.Ex.length ≤ 1048576 ∧ p.Exs.length ≤ 1048576 ∧ ∀ xs ∈ p.Exs, xs.length ≤ 1048576)
    (hg : g < w.heap.size) (hn : FnsAt w g 0 fs) (hgt : gt < w.heap.size) (ht : TablesAt w gt 0 ts) (hV : FlatV ts fs Rt) :
    Calls Tryz.prog 7 #[.agg #[.slice (some ⟨g, 0, none⟩) fs.length cap, .int .i64 Rt], .agg #[.slice (some ⟨gt, 0, none⟩) ts.length capt]] w fun e w' => ∃ v, e = .returned (.tuple #[.agg #[v, .int .i64 Rt], .bool true]) ∧ (∀ W', Keeps w.heap.size w' W' → IsFns W' v (simpTo ts fs Rt fs.length)) ∧ Below w.heap.size w w' := by
  have HF := hide (fun W (hb : Below w.heap.size w W) => sFlatOk_calls ts fs Rt g cap gt capt W lt hsm fit (Nat.lt_of_lt_of_le hg hb.size) (hn.of hg hb) (Nat.lt_of_lt_of_le hgt hb.size) (ht.of hgt hb))
  have few : fs.length ≤ 8000 := hV.few
  have hd : DbV ts := hV.db
  have HW := hide (fun W (hb : Below w.heap.size w W) => l4Widths_calls ts fs Rt g cap gt capt W hd few fit (Nat.lt_of_lt_of_le hg hb.size) (hn.of hg hb) (Nat.lt_of_lt_of_le hgt hb.size) (ht.of hgt hb))
  rw [flatE_yes hV] at HF
  have hok := hV.all
  generalize fw ts fs Rt.toNat = zR at HF
  go_enter Tryz.func7, Tryz.ntmps7
  go_wp2_with fail
  refine (unhide HF _ (bA (bA (bA (Below.refl _ _) _) _) _)).mono ?_; rintro e w1 ⟨rfl, hb⟩
  have n1 := bT (bA (bA (bA (Below.refl w.heap.size w) _) _) _) hb
  have F := FB.of (s := w.heap.size) (g := g) (nf := fs.length) (cap := cap) (Rt := Rt) (gt := gt) (nt := ts.length) (capt := capt) ⟨by simp [go_sem], by simp [go_sem], by simp [go_sem], (by simp <;> omega), (by simp <;> omega)⟩ hb
  have r0 : w1.cell? ⟨w.heap.size + 2, 0, none⟩ = some (.slice none 0 0) := (hb.cell (p := ⟨w.heap.size + 2, 0, none⟩) (by simp)).trans (by simp [go_sem])
  have r1 : w1.cell? ⟨w.heap.size + 2, 1, none⟩ = some (.int .i64 0) := (hb.cell (p := ⟨w.heap.size + 2, 1, none⟩) (by simp)).trans (by simp [go_sem])
  have rf : ∀ o, w1.frozen? ⟨w.heap.size + 2, o, none⟩ = false := fun o => (hb.frozen (p := ⟨w.heap.size + 2, o, none⟩) (by simp)).trans (by simp [go_sem])
  have rs : w.heap.size + 2 < w1.heap.size := by have := hb.size; simp at this; omega
  clear hb
  obtain ⟨fp, frt, fd, fs0, fs1⟩ := id F
  go_wp2_with fail
  refine (unhide HW _ n1).mono ?_
  rintro e w2 ⟨⟨_, g', cap', rfl, hO⟩ | ⟨hno, v, rfl⟩, hb⟩
  rotate_left
  · exact absurd hok hno
  have n2 := bT n1 hb
  have F2 := F.of hb
  have r0 := (hb.cell (p := ⟨w.heap.size + 2, 0, none⟩) rs).trans r0
  have r1 := (hb.cell (p := ⟨w.heap.size + 2, 1, none⟩) rs).trans r1
  have rf : ∀ o, w2.frozen? ⟨w.heap.size + 2, o, none⟩ = false := fun o => (hb.frozen (p := ⟨w.heap.size + 2, o, none⟩) rs).trans (rf o)
  have rs : w.heap.size + 2 < w2.heap.size := Nat.lt_of_lt_of_le rs hb.size
  clear hb fp frt fd fs0 fs1
  obtain ⟨fp, frt, fd, fs0, fs1⟩ := id F2
  have HFn := hide (fun W (hb : Below w2.heap.size w2 W) => hn.of hg (bT n2 hb))
  have hO1 := hO.lt.1
  have HIn := hide (fun W (hb : Below w2.heap.size w2 W) => (hO.of hb).row)
  have HF2 := hide (fun W (hb : Below w2.heap.size w2 W) => F2.of hb)
  have HAs : Hid (∀ (j : Nat) (hj : j < fs.length) W, Below w2.heap.size w2 W → Calls Tryz.prog 27 #[.agg #[.slice (some ⟨g, 0, none⟩) fs.length cap, .int .i64 Rt], .slice (some ⟨g', 0, none⟩) fs.length cap', .int .i64 (j : Int)] W fun e w' => e = .returned (.int .i64 (asksP ts fs Rt fs[j] : Int)) ∧ Below W.heap.size W w') := fun j hj W hb =>
    l4Asks_calls ts fs Rt g cap g' cap' j W hd few hok (fun p hp => (fit p hp).1) hj (Nat.lt_of_lt_of_le hg (bT n2 hb).size) (hn.of hg (bT n2 hb)) (Nat.lt_of_lt_of_le hO1 hb.size) ((hO.of hb).row)
  have HPos := hide (fun (j : Nat) (hj : j < fs.length) => asks_pos (Rt := Rt) hd hok hj)
  have HFit := hide fit
  have hg2 : g < w2.heap.size := Nat.lt_of_lt_of_le hg n2.size
  clear HF HW hsm hn ht fit hok hV hd F F2 hO
  obtain ⟨i, hi, hz⟩ := Option.map_eq_some_iff.1 (show (Tryz.prog.info? 64).map (fun i => (i.zero, i.size, i.bytes)) = some (some (.slice none 0 0), 1, 24) by kernel_rfl)
  simp only [Prod.mk.injEq] at hz
  obtain ⟨hz0, hz1, hz2⟩ := hz
  obtain ⟨i', hi', hz'⟩ := Option.map_eq_some_iff.1 (show (Tryz.prog.info? 67).map (fun i => (i.zero, i.size, i.bytes)) = some (some (.agg #[.int .i64 0, .int .i64 0, .int .i64 0, .int .i64 0, .slice none 0 0, .slice none 0 0, .int .i64 0, .int .i64 0]), 8, 96) by kernel_rfl)
  simp only [Prod.mk.injEq] at hz'
  obtain ⟨hz0', hz1', hz2'⟩ := hz'
  go_wp2
  go_loopw [11] (fun c wr => ∃ (k G c' : Nat) (cs : List Value), k ≤ fs.length ∧ c = .int .i64 k ∧ SL w2 ts fs Rt k G c' cs wr) (fun c _ => fs.length - (intOf c).toNat)
  case atStart =>
    refine ⟨0, w2.heap.size, 0, [], Nat.zero_le _, rfl, ⟨?_, by omega, by simp [go_sem], by simp [go_sem], fun o => by simp [go_sem], bA (bA (Below.refl _ _) _) _, by simp⟩⟩
    exact (GrowF.start w2 w2.heap.size (w2.heap.size + 2) (Nat.le_refl _)).of (bA (Below.refl _ _) _)
  case round =>
    rename World => wo
    obtain ⟨k, G, c', cs, hk, rfl, hS⟩ := hrel
    clear fp frt fd fs0 fs1
    have hlow := hS.low
    obtain ⟨fp, frt, fd, fs0, fs1⟩ := unhide HF2 wo hlow
    have hsz := hS.sz
    have q1 : g < wo.heap.size := Nat.lt_of_lt_of_le hg2 hlow.size
    have hGl := hS.gr.lt
    have HS := hide hS
    by_cases hlt : k < fs.length
    · obtain ⟨x0, x1, x2, x3, x6, x7, ⟨bx, x4, _, hbx, hox⟩, dx, x5, _, hdx, hpx⟩ := (unhide HFn wo hlow).at k hlt
      obtain ⟨l4, l5, l6⟩ := unhide HFit _ (List.getElem_mem hlt)
      have j1 : (k : Int) < (fs.length : Int) := by omega
      have HAk := hide (unhide HAs k hlt)
      have HPk := hide (unhide HPos k hlt)
      have HTk := hide (simpTo_succ ts fs Rt k hlt)
      have HLs := hide (laterK_start ts fs Rt k)
      obtain ⟨A, hA⟩ : ∃ A, asksP ts fs Rt fs[k] = A := ⟨_, rfl⟩
      have hA2 : A ≤ 2 := by rw [← hA]; exact asksP_le _ _ _ _
      have HSn : Hid (simpN ts fs Rt k fs[k] = { (if 0 < A then (⟨4, 0, 0, 0, [], colExs (fw ts fs (fs[k]).L.toNat - 1).toNat ++ [[(1, 2 - (A : Int))]], (fs[k]).L, 0⟩ : Fn) else fs[k]) with K := laterK ts fs Rt k (if 0 < A then (⟨4, 0, 0, 0, [], colExs (fw ts fs (fs[k]).L.toNat - 1).toNat ++ [[(1, 2 - (A : Int))]], (fs[k]).L, 0⟩ : Fn) else fs[k]).K fs.length }) := by
        show _ = _
        unfold simpN askedN
        rw [hA]
      rw [hA] at HAk HPk
      clear hA
      generalize simpN ts fs Rt k fs[k] = pn at *
      simp only [Nat.zero_add] at x0 x1 x2 x3 x4 x5 x6 x7
      generalize e : fs[k] = pk at *
      clear e
      obtain ⟨K, T, M, Wd, Ex, Exs, L, R⟩ := pk
      simp only at x0 x1 x2 x3 x4 x5 x6 x7 hox hpx l4 l5 l6 HSn HPk
      have HCN := hide (l4CopyNode_calls K T M Wd L R Ex Exs bx dx wo hbx hdx hox hpx l4 l5 l6)
      clear hox hpx l6
      go_wp2_with fail
      refine (unhide HCN).mono ?_; rintro e w3 ⟨u4, u5, rfl, h4, h5, hb3⟩
      obtain ⟨a4, c4, rfl⟩ := h4.slice
      obtain ⟨a5, c5, rfl⟩ := h5.slice
      have hs3 := hb3.size
      have m3 := (unhide HS).of hb3
      have H4 := hide (h4.mono (T := fun b => wo.heap.size ≤ b ∧ b ≠ w3.heap.size) (fun b hb e => ⟨e, by omega⟩))
      have H5 := hide (h5.mono (To := fun b => wo.heap.size ≤ b ∧ b ≠ w3.heap.size) (Ti := fun _ b => wo.heap.size ≤ b ∧ b ≠ w3.heap.size) (fun b hb e => ⟨e, by omega⟩) (fun _ b hb e => ⟨e, by omega⟩))
      have m3l := m3.low
      clear fp frt fd fs0 fs1 x0 x1 x2 x3 x4 x5 x6 x7 h4 h5 HCN hbx hdx
      obtain ⟨fp, frt, fd, fs0, fs1⟩ := unhide HF2 w3 m3l
      go_wp2_with fail
      have HX4 := hide (bA (Below.refl w3.heap.size w3) (.cells #[.int .i64 K, .int .i64 T, .int .i64 M, .int .i64 Wd, .slice a4 Ex.length c4, .slice a5 Exs.length c5, .int .i64 L, .int .i64 R] 67))
      refine (unhide HAk _ (bT m3l (unhide HX4))).mono ?_; rintro e w4 ⟨rfl, hb4⟩
      have N4 := N8.of (s := w3.heap.size) (K := K) (T := T) (M := M) (Wd := Wd) (L := L) (R := R) (u4 := .slice a4 Ex.length c4) (u5 := .slice a5 Exs.length c5) ⟨by simp [go_sem], by simp [go_sem], by simp [go_sem], by simp [go_sem], by simp [go_sem], by simp [go_sem], by simp [go_sem], by simp [go_sem], by simp⟩ hb4
      have nf4 : ∀ o, w4.frozen? ⟨w3.heap.size, o, none⟩ = false := fun o => by rw [hb4.frozen (p := ⟨w3.heap.size, o, none⟩) (by simp)]; simp [go_sem]
      have d4 := bT (unhide HX4) hb4
      have e4 := bT hb3 d4
      have G4 := hide ((unhide H4).of d4)
      have G5 := hide ((unhide H5).of d4)
      have hs4 : w3.heap.size + 1 ≤ w4.heap.size := by have := hb4.size; simpa using this
      have m4l := bT hlow e4
      clear fp frt fd fs0 fs1 H4 H5 HX4 hb4 m3l m3 d4 HAk hb3
      obtain ⟨fp, frt, fd, fs0, fs1⟩ := unhide HF2 w4 m4l
      by_cases hA0 : 0 < A
      · obtain ⟨q, m, hLq, hq, hfw, hm⟩ := unhide HPk hA0
        subst hLq
        have rw0 := (unhide HIn w4 m4l).at q (by rw [fws_length]; exact hq)
        rw [fws_at ts fs fs.length q hq, Nat.zero_add, hfw] at rw0
        have hgw : g' < w4.heap.size := Nat.lt_of_lt_of_le hO1 m4l.size
        have hqi : (q : Int) < (fs.length : Int) := by omega
        have hmi : (m : Int) ≤ 200 := by omega
        have hA1' : (0 : Int) < (A : Int) := by omega
        have hA2' : (A : Int) ≤ 2 := by omega
        have HEx := hide (fun (nz : Int) (hnz : nz = (m : Int)) W => l4Exs_calls m nz hnz W (by omega))
        have HMm : Hid ((fw ts fs ((q : Int)).toNat - 1).toNat = m) := by
          show _ = _
          rw [show ((q : Int)).toNat = q by omega, hfw]; omega
        clear hfw HPk
        obtain ⟨f0, f1, f2, f3, f4, f5, f6, f7, fz⟩ := id N4
        go_wp2_with fail
        refine (unhide HEx _ (by first | rfl | omega) _).mono ?_; rintro e w5 ⟨Gx, cx, lb, hs, rfl, hM, hb5⟩
        have N5 := N4.of hb5
        have nf5 : ∀ o, w5.frozen? ⟨w3.heap.size, o, none⟩ = false := fun o => (hb5.frozen (p := ⟨w3.heap.size, o, none⟩) fz).trans (nf4 o)
        have hs5 := hb5.size
        clear f0 f1 f2 f3 f4 f5 f6 f7 rw0 HEx
        obtain ⟨f0, f1, f2, f3, f4, f5, f6, f7, fz5⟩ := id N5
        have hlen : hs.length = m := by have := hM.len; rw [colExs_length] at this; exact this
        have hMl := hM.own.lt
        have hx1 := bA (Below.refl w5.heap.size w5) (.cells #[.int .i64 1, .int .i64 (2 - (A : Int))] 72)
        have hx := bA hx1 (.cells #[(.slice (some ⟨w5.heap.size, 0, none⟩) 1 1)] 64)
        have HG := hide (hM.of hx)
        have HOld : Hid (∀ (i : Nat) (v : Value) (ys : List O2), hs[i]? = some v → (colExs m)[i]? = some ys → OpsM ((w5.alloc (.cells #[.int .i64 1, .int .i64 (2 - (A : Int))] 72)).alloc (.cells #[.slice (some ⟨w5.heap.size, 0, none⟩) 1 1] 64)) v ys (fun b => w4.heap.size ≤ b ∧ b ≠ Gx ∧ lb b = i ∧ b < w5.heap.size)) := fun i v ys h1 h2 => (hM.low i v ys h1 h2).of hx
        have HU : Hid (OpsM ((w5.alloc (.cells #[.int .i64 1, .int .i64 (2 - (A : Int))] 72)).alloc (.cells #[.slice (some ⟨w5.heap.size, 0, none⟩) 1 1] 64)) (.slice (some ⟨w5.heap.size, 0, none⟩) 1 1) [((1 : Int), (2 - (A : Int)))] (fun b => w5.heap.size ≤ b ∧ b ≠ Gx)) := ((opsM_one 72 (Nat.le_refl _)).of (bA (Below.refl _ _) _)).mono (fun b _ e => ⟨e, by omega⟩)
        have HB1 := hide (bT hb5 hx)
        have HLn := hide hlen
        have HNw : Hid (∀ j u, ([(.slice (some ⟨w5.heap.size, 0, none⟩) 1 1)] : List Value)[j]? = some u → ((w5.alloc (.cells #[.int .i64 1, .int .i64 (2 - (A : Int))] 72)).alloc (.cells #[.slice (some ⟨w5.heap.size, 0, none⟩) 1 1] 64)).cell? ((⟨(w5.alloc (.cells #[.int .i64 1, .int .i64 (2 - (A : Int))] 72)).heap.size, 0, none⟩ : Addr).add j) = some u) := World.news_of_block (cs := #[(.slice (some ⟨w5.heap.size, 0, none⟩) 1 1)]) (MapKept.heap_alloc (w5.alloc (.cells #[.int .i64 1, .int .i64 (2 - (A : Int))] 72)) _).1
        rw [show (w5.alloc (.cells #[.int .i64 1, .int .i64 (2 - (A : Int))] 72)).heap.size = w5.heap.size + 1 by simp] at HNw
        clear hM hx hx1 hlen hb5
        go_upto_region 14 with (at_builtin; refine wpList_append_lies _ rfl (.tmp 61) (.tmp 66) 65 rfl w4.heap.size 64 i _ 1 24 Tryz.underlying65 hi hz0 hz1 hz2 rfl (by decide) (.slice (some ⟨Gx, 0, none⟩) m cx) m hs rfl (by have := (unhide HG).own; unfold OwnH at this; rw [unhide HLn] at this; exact this) ⟨w5.heap.size + 1, 0, none⟩ 1 1 [(.slice (some ⟨w5.heap.size, 0, none⟩) 1 1)] rfl rfl (unhide HNw) (by intro u hu; simp at hu; subst hu; rfl) (by decide) (by unfold maxLen; omega) (by omega) (by simp; omega) _ rfl ?_; intro g2 cap2 w6 hown2 hgrow hat hlt2)
        have HG2 : Hid (GrowO w6 w4.heap.size g2 cap2 (fun b => if w5.heap.size ≤ b then m else lb b) (hs ++ [(.slice (some ⟨w5.heap.size, 0, none⟩) 1 1)]) (colExs m ++ [[((1 : Int), 2 - (A : Int))]])) := by
          refine GrowO.push (unhide HG) (unhide HLn) (unhide HOld) hs5 (unhide HU) hown2 hgrow ?_
          rcases hat with e | e
          · exact Or.inl (by simpa [Value.ownBlock] using e.symm)
          · exact Or.inr e
        have d6 : Below w4.heap.size w4 w6 := (unhide HB1).grown hgrow (by simp; omega) (fun j hj => by
          have : Gx = j := by simpa [Value.ownBlock] using hj
          omega)
        clear hown2 hgrow hat HG HOld HU HLn HB1 HNw f0 f1 f2 f3 f4 f5 f6 f7 fz5 N5 nf5
        have N6 := N4.of d6
        have nf6 : ∀ o, w6.frozen? ⟨w3.heap.size, o, none⟩ = false := fun o => (d6.frozen (p := ⟨w3.heap.size, o, none⟩) fz).trans (nf4 o)
        obtain ⟨f0, f1, f2, f3, f4, f5, f6, f7, fz6⟩ := id N6
        go_wp2
        have HPack : Hid (∃ (K5 T5 M5 W5 L5 R5 : Int) (b4 b5 : Option Addr) (n4 d4 n5 d5 : Nat) (Ex5 : List O2) (Exs5 : List (List O2)), N8 w3.heap.size K5 T5 M5 W5 L5 R5 (.slice b4 n4 d4) (.slice b5 n5 d5) ((((((((w6.setCell ⟨w3.heap.size, 0, none⟩ (.int .i64 4)).setCell ⟨w3.heap.size, 1, none⟩ (.int .i64 0)).setCell ⟨w3.heap.size, 2, none⟩ (.int .i64 0)).setCell ⟨w3.heap.size, 3, none⟩ (.int .i64 0)).setCell ⟨w3.heap.size, 4, none⟩ (.slice none 0 0)).setCell ⟨w3.heap.size, 5, none⟩ (.slice (some ⟨g2, 0, none⟩) (m + 1) cap2)).setCell ⟨w3.heap.size, 6, none⟩ (.int .i64 (q : Int))).setCell ⟨w3.heap.size, 7, none⟩ (.int .i64 0)) ∧ (∀ o, ((((((((w6.setCell ⟨w3.heap.size, 0, none⟩ (.int .i64 4)).setCell ⟨w3.heap.size, 1, none⟩ (.int .i64 0)).setCell ⟨w3.heap.size, 2, none⟩ (.int .i64 0)).setCell ⟨w3.heap.size, 3, none⟩ (.int .i64 0)).setCell ⟨w3.heap.size, 4, none⟩ (.slice none 0 0)).setCell ⟨w3.heap.size, 5, none⟩ (.slice (some ⟨g2, 0, none⟩) (m + 1) cap2)).setCell ⟨w3.heap.size, 6, none⟩ (.int .i64 (q : Int))).setCell ⟨w3.heap.size, 7, none⟩ (.int .i64 0)).frozen? ⟨w3.heap.size, o, none⟩ = false) ∧ Below wo.heap.size wo ((((((((w6.setCell ⟨w3.heap.size, 0, none⟩ (.int .i64 4)).setCell ⟨w3.heap.size, 1, none⟩ (.int .i64 0)).setCell ⟨w3.heap.size, 2, none⟩ (.int .i64 0)).setCell ⟨w3.heap.size, 3, none⟩ (.int .i64 0)).setCell ⟨w3.heap.size, 4, none⟩ (.slice none 0 0)).setCell ⟨w3.heap.size, 5, none⟩ (.slice (some ⟨g2, 0, none⟩) (m + 1) cap2)).setCell ⟨w3.heap.size, 6, none⟩ (.int .i64 (q : Int))).setCell ⟨w3.heap.size, 7, none⟩ (.int .i64 0)) ∧ OpsM ((((((((w6.setCell ⟨w3.heap.size, 0, none⟩ (.int .i64 4)).setCell ⟨w3.heap.size, 1, none⟩ (.int .i64 0)).setCell ⟨w3.heap.size, 2, none⟩ (.int .i64 0)).setCell ⟨w3.heap.size, 3, none⟩ (.int .i64 0)).setCell ⟨w3.heap.size, 4, none⟩ (.slice none 0 0)).setCell ⟨w3.heap.size, 5, none⟩ (.slice (some ⟨g2, 0, none⟩) (m + 1) cap2)).setCell ⟨w3.heap.size, 6, none⟩ (.int .i64 (q : Int))).setCell ⟨w3.heap.size, 7, none⟩ (.int .i64 0)) (.slice b4 n4 d4) Ex5 (fun b => wo.heap.size ≤ b ∧ b ≠ w3.heap.size) ∧ OpssM ((((((((w6.setCell ⟨w3.heap.size, 0, none⟩ (.int .i64 4)).setCell ⟨w3.heap.size, 1, none⟩ (.int .i64 0)).setCell ⟨w3.heap.size, 2, none⟩ (.int .i64 0)).setCell ⟨w3.heap.size, 3, none⟩ (.int .i64 0)).setCell ⟨w3.heap.size, 4, none⟩ (.slice none 0 0)).setCell ⟨w3.heap.size, 5, none⟩ (.slice (some ⟨g2, 0, none⟩) (m + 1) cap2)).setCell ⟨w3.heap.size, 6, none⟩ (.int .i64 (q : Int))).setCell ⟨w3.heap.size, 7, none⟩ (.int .i64 0)) (.slice b5 n5 d5) Exs5 (fun b => wo.heap.size ≤ b ∧ b ≠ w3.heap.size) (fun _ b => wo.heap.size ≤ b ∧ b ≠ w3.heap.size) ∧ pn = ⟨laterK ts fs Rt k K5 fs.length, T5, M5, W5, Ex5, Exs5, L5, R5⟩) := by
          refine ⟨4, 0, 0, 0, (q : Int), 0, none, some ⟨g2, 0, none⟩, 0, 0, m + 1, cap2, [], colExs m ++ [[((1 : Int), 2 - (A : Int))]], ⟨by simp [go_sem, f0], by simp [go_sem, f1], by simp [go_sem, f2], by simp [go_sem, f3], by simp [go_sem, f4], by simp [go_sem, f5], by simp [go_sem, f6], by simp [go_sem, f7], by simp; omega⟩, fun o => by simp [go_sem, nf6], ?_, Or.inl ⟨rfl, _, _, rfl⟩, ?_, ?_⟩
          · (repeat (first | refine Below.setCell ?_ (by dsimp only; omega) _ | exact bT e4 d6))
          · have h := (unhide HG2).opssM.mono (To := fun b => wo.heap.size ≤ b ∧ b ≠ w3.heap.size) (Ti := fun _ b => wo.heap.size ≤ b ∧ b ≠ w3.heap.size) (fun b _ e => by have := (unhide HG2).own.lt.2.1; omega) (fun _ b _ e => by omega)
            rw [List.length_append, colExs_length] at h
            (repeat (first | refine OpssM.stored ?_ (fun b e => e.2) (fun _ b e => e.2) _ | exact h))
          · rw [unhide HSn]
            simp only [hA0, if_true, unhide HMm]
        obtain ⟨K5, T5, M5, W5, L5, R5, b4, b5, n4, d4, n5, d5, Ex5, Exs5, hN, hNf, hE, hO4, hO5, hpn⟩ := unhide HPack
        have HO4 := hide hO4; have HO5 := hide hO5; have HPn := hide hpn
        clear HPack hO4 hO5 hpn f0 f1 f2 f3 f4 f5 f6 f7
        clear N4 N6 HG2 G4 G5 d6 HSn HMm hm hmi hA1' hA2' hs5 hMl hq hqi hgw nf4 nf6 fz fz6 rf
        clear fp frt fd fs0 fs1
        go_loopw [15] (fun c wi => ∃ j : Nat, k + 1 ≤ j ∧ j ≤ fs.length ∧ c = .int .i64 (j : Int) ∧ Below wo.heap.size wo wi ∧ N8 w3.heap.size (laterK ts fs Rt k K5 j) T5 M5 W5 L5 R5 (.slice b4 n4 d4) (.slice b5 n5 d5) wi ∧ (∀ o, wi.frozen? ⟨w3.heap.size, o, none⟩ = false) ∧ OpsM wi (.slice b4 n4 d4) Ex5 (fun b => wo.heap.size ≤ b ∧ b ≠ w3.heap.size) ∧ OpssM wi (.slice b5 n5 d5) Exs5 (fun b => wo.heap.size ≤ b ∧ b ≠ w3.heap.size) (fun _ b => wo.heap.size ≤ b ∧ b ≠ w3.heap.size)) (fun c _ => fs.length - (intOf c).toNat)
        case atStart => exact ⟨k + 1, Nat.le_refl _, by omega, by go_num, hE, by rw [unhide HLs _ (k + 1) (Nat.le_refl _)]; exact hN, hNf, unhide HO4, unhide HO5⟩
        case round =>
          clear hN hNf hE HO4 HO5
          obtain ⟨j, hj0, hj1, rfl, hbi, hNi, hNfi, h4i, h5i⟩ := hrel
          have H4i := hide h4i; have H5i := hide h5i
          clear h4i h5i
          have hli := bT hlow hbi
          obtain ⟨fp, frt, fd, fs0, fs1⟩ := unhide HF2 wr hli
          have hgi : g < wr.heap.size := Nat.lt_of_lt_of_le hg2 hli.size
          by_cases hjl : j < fs.length
          · obtain ⟨-, -, -, -, y6, -⟩ := (unhide HFn wr hli).at j hjl
            simp only [Nat.zero_add] at y6
            have jj1 : (j : Int) < (fs.length : Int) := by omega
            have HAj := hide (unhide HAs j hjl)
            have HLk := hide (laterK_succ ts fs Rt k K5 j hjl (by omega))
            obtain ⟨Aj, hAj⟩ : ∃ Aj, asksP ts fs Rt fs[j] = Aj := ⟨_, rfl⟩
            have hAj2 : Aj ≤ 2 := by rw [← hAj]; exact asksP_le _ _ _ _
            rw [hAj] at HAj HLk
            clear hAj
            generalize (fs[j]).L = Lj at *
            by_cases hLj : Lj = (k : Int)
            · have hLb : (Lj == (k : Int)) = true := by simp [hLj]
              by_cases hAj0 : 0 < Aj
              · have hAi : (0 : Int) < (Aj : Int) := by omega
                have hAi2 : (Aj : Int) ≤ 2 := by omega
                have HV : Hid (laterK ts fs Rt k K5 (j + 1) = 10 + (Aj : Int) - 1) := by
                  show _ = _
                  rw [unhide HLk, if_pos ⟨hLj, hAj0⟩]
                clear HLk hLj hAj0
                obtain ⟨kv, hkv⟩ : ∃ kv, laterK ts fs Rt k K5 (j + 1) = kv := ⟨_, rfl⟩
                rw [hkv] at HV
                have HKv := hide hkv
                clear hkv
                generalize laterK ts fs Rt k K5 j = kw at *
                go_wp2_with fail
                refine (unhide HAj _ hli).mono ?_; rintro e w7 ⟨rfl, hb7⟩
                have l7 := bT hli hb7
                clear fp frt fd fs0 fs1 y6
                obtain ⟨fp, frt, fd, fs0, fs1⟩ := unhide HF2 w7 l7
                go_wp2_with fail
                refine (unhide HAj _ l7).mono ?_; rintro e w8 ⟨rfl, hb8⟩
                have b78 := bT hb7 hb8
                have hN8 := hNi.of b78
                have hNf8 : ∀ o, w8.frozen? ⟨w3.heap.size, o, none⟩ = false := fun o => (b78.frozen (p := ⟨w3.heap.size, o, none⟩) hNi.sz).trans (hNfi o)
                have H48 := hide (((unhide H4i).of b78).stored (o := 0) (fun b e => e.2) (.int .i64 kv))
                have H58 := hide (((unhide H5i).of b78).stored (o := 0) (fun b e => e.2) (fun _ b e => e.2) (.int .i64 kv))
                have HB8 := hide ((bT hbi b78).setCell (p := ⟨w3.heap.size, 0, none⟩) (by dsimp only; omega) (.int .i64 kv))
                obtain ⟨f0, f1, f2, f3, f4, f5, f6, f7, fz8⟩ := id hN8
                have HN9 : Hid (N8 w3.heap.size kv T5 M5 W5 L5 R5 (.slice b4 n4 d4) (.slice b5 n5 d5) (w8.setCell ⟨w3.heap.size, 0, none⟩ (.int .i64 kv))) := ⟨by simp [go_sem, f0], by simp [go_sem, f1], by simp [go_sem, f2], by simp [go_sem, f3], by simp [go_sem, f4], by simp [go_sem, f5], by simp [go_sem, f6], by simp [go_sem, f7], by simp; omega⟩
                have HF9 : Hid (∀ o, (w8.setCell ⟨w3.heap.size, 0, none⟩ (.int .i64 kv)).frozen? ⟨w3.heap.size, o, none⟩ = false) := fun o => by simp [go_sem, hNf8]
                rw [unhide HV] at HN9 HF9 H48 H58 HB8
                clear hb7 hb8 b78 hN8 H4i H5i HAj
                go_wp2
                go_roundw
                case rel => exact ⟨j + 1, by omega, by omega, by go_num, unhide HB8, by rw [unhide HKv, unhide HV]; exact unhide HN9, unhide HF9, unhide H48, unhide H58⟩
                case measure => simp [intOf]; omega
              · have hAi : ¬ (0 : Int) < (Aj : Int) := by omega
                have HV : Hid (laterK ts fs Rt k K5 (j + 1) = laterK ts fs Rt k K5 j) := by
                  show _ = _
                  rw [unhide HLk, if_neg (fun h => hAj0 h.2)]
                clear HLk hLj hAj0
                go_wp2_with fail
                refine (unhide HAj _ hli).mono ?_; rintro e w7 ⟨rfl, hb7⟩
                have hNf7 : ∀ o, w7.frozen? ⟨w3.heap.size, o, none⟩ = false := fun o => (hb7.frozen (p := ⟨w3.heap.size, o, none⟩) hNi.sz).trans (hNfi o)
                have hN7 := hide (hNi.of hb7)
                have H47 := hide ((unhide H4i).of hb7)
                have H57 := hide ((unhide H5i).of hb7)
                have HB7 := hide (bT hbi hb7)
                clear hb7 H4i H5i HAj
                go_wp2
                go_roundw
                case rel => exact ⟨j + 1, by omega, by omega, by go_num, unhide HB7, by rw [unhide HV]; exact unhide hN7, hNf7, unhide H47, unhide H57⟩
                case measure => simp [intOf]; omega
            · have hLb : (Lj == (k : Int)) = false := by simp [hLj]
              have HV : Hid (laterK ts fs Rt k K5 (j + 1) = laterK ts fs Rt k K5 j) := by
                show _ = _
                rw [unhide HLk, if_neg (fun h => hLj h.1)]
              clear HLk hLj HAj
              go_wp2
              go_roundw
              case rel => exact ⟨j + 1, by omega, by omega, by go_num, hbi, by rw [unhide HV]; exact hNi, hNfi, unhide H4i, unhide H5i⟩
              case measure => simp [intOf]; omega
          · obtain rfl : j = fs.length := by omega
            have jn : ¬ (fs.length : Int) < (fs.length : Int) := by omega
            generalize laterK ts fs Rt k K5 fs.length = kw at *
            have m9 := (unhide HS).of hbi
            have o0 := m9.o0
            have o1 := m9.o1
            have ofz := m9.ofz
            have hsz9 := m9.sz
            have hGne := m9.ne
            have ob9 : w2.heap.size + 1 < wr.heap.size := by omega
            have hxj := bA (Below.refl wr.heap.size wr) (.cells #[.int .i64 kw, .int .i64 T5, .int .i64 M5, .int .i64 W5, .slice b4 n4 d4, .slice b5 n5 d5, .int .i64 L5, .int .i64 R5] 67)
            have HGF := hide (m9.gr.of hxj)
            have H4j : Hid (OpsM (wr.alloc (.cells #[.int .i64 kw, .int .i64 T5, .int .i64 M5, .int .i64 W5, .slice b4 n4 d4, .slice b5 n5 d5, .int .i64 L5, .int .i64 R5] 67)) (.slice b4 n4 d4) Ex5 (fun b => w2.heap.size + 2 ≤ b ∧ b ≠ G)) := ((unhide H4i).of hxj).mono (fun b _ e => by omega)
            have H5j : Hid (OpssM (wr.alloc (.cells #[.int .i64 kw, .int .i64 T5, .int .i64 M5, .int .i64 W5, .slice b4 n4 d4, .slice b5 n5 d5, .int .i64 L5, .int .i64 R5] 67)) (.slice b5 n5 d5) Exs5 (fun b => w2.heap.size + 2 ≤ b ∧ b ≠ G) (fun _ b => w2.heap.size + 2 ≤ b ∧ b ≠ G)) := ((unhide H5i).of hxj).mono (fun b _ e => by omega) (fun _ b _ e => by omega)
            have HBj := hide (bT m9.low hxj)
            have HNw : Hid (∀ j u, ([.int .i64 kw, .int .i64 T5, .int .i64 M5, .int .i64 W5, .slice b4 n4 d4, .slice b5 n5 d5, .int .i64 L5, .int .i64 R5] : List Value)[j]? = some u → (wr.alloc (.cells #[.int .i64 kw, .int .i64 T5, .int .i64 M5, .int .i64 W5, .slice b4 n4 d4, .slice b5 n5 d5, .int .i64 L5, .int .i64 R5] 67)).cell? ((⟨wr.heap.size, 0, none⟩ : Addr).add j) = some u) := World.news_of_block (cs := #[.int .i64 kw, .int .i64 T5, .int .i64 M5, .int .i64 W5, .slice b4 n4 d4, .slice b5 n5 d5, .int .i64 L5, .int .i64 R5]) (MapKept.heap_alloc wr _).1
            have HFar : Hid (∀ w9, (wr.alloc (.cells #[.int .i64 kw, .int .i64 T5, .int .i64 M5, .int .i64 W5, .slice b4 n4 d4, .slice b5 n5 d5, .int .i64 L5, .int .i64 R5] 67)).grownBy w9 (Value.slice (some ⟨G, 0, none⟩) k c').ownBlock → w9.cell? ⟨w2.heap.size + 1, 0, none⟩ = some (.slice (some ⟨G, 0, none⟩) k c') ∧ w9.cell? ⟨w2.heap.size + 1, 1, none⟩ = some (.int .i64 Rt) ∧ (∀ o, w9.frozen? ⟨w2.heap.size + 1, o, none⟩ = false) ∧ w2.heap.size + 1 < w9.heap.size) := fun w9 hgr => by
              have hne : some (w2.heap.size + 1) ≠ (Value.slice (some ⟨G, 0, none⟩) k c').ownBlock := by simp [Value.ownBlock]; omega
              have hl9 : w2.heap.size + 1 < (wr.alloc (.cells #[.int .i64 kw, .int .i64 T5, .int .i64 M5, .int .i64 W5, .slice b4 n4 d4, .slice b5 n5 d5, .int .i64 L5, .int .i64 R5] 67)).heap.size := by simp; omega
              exact ⟨(hgr.cell_far ⟨w2.heap.size + 1, 0, none⟩ hl9 hne).trans ((hxj.cell (p := ⟨w2.heap.size + 1, 0, none⟩) ob9).trans o0), (hgr.cell_far ⟨w2.heap.size + 1, 1, none⟩ hl9 hne).trans ((hxj.cell (p := ⟨w2.heap.size + 1, 1, none⟩) ob9).trans o1), fun o => (hgr.frozen_far ⟨w2.heap.size + 1, o, none⟩ hl9 hne).trans ((hxj.frozen (p := ⟨w2.heap.size + 1, o, none⟩) ob9).trans (ofz o)), Nat.lt_of_lt_of_le hl9 hgr.size⟩
            have hkm : k < 8000 := by omega
            obtain ⟨f0, f1, f2, f3, f4, f5, f6, f7, fz9⟩ := id hNi
            clear hxj m9 H4i H5i
            go_upto_region 8 with (at_builtin; refine wpList_append_lies _ rfl (.tmp 104) (.tmp 106) 30 rfl w2.heap.size 67 i' _ 8 96 Tryz.underlying30 hi' hz0' hz1' hz2' rfl (by decide) (.slice (some ⟨G, 0, none⟩) k c') k cs rfl (unhide HGF).own ⟨wr.heap.size, 0, none⟩ 1 1 [.int .i64 kw, .int .i64 T5, .int .i64 M5, .int .i64 W5, .slice b4 n4 d4, .slice b5 n5 d5, .int .i64 L5, .int .i64 R5] rfl rfl (unhide HNw) (by intro u hu; simp at hu; rcases hu with rfl | rfl | rfl | rfl | rfl | rfl | rfl | rfl <;> rfl) (by decide) (by unfold maxLen; omega) (by omega) (by simp; omega) _ rfl ?_; intro g3 cap3 w9 hown3 hgrow3 hat3 hlt3; obtain ⟨z0, z1, z2, z3⟩ := unhide HFar w9 hgrow3)
            have HSL : Hid (SL w2 ts fs Rt (k + 1) g3 cap3 (cs ++ [.int .i64 kw, .int .i64 T5, .int .i64 M5, .int .i64 W5, .slice b4 n4 d4, .slice b5 n5 d5, .int .i64 L5, .int .i64 R5]) (w9.setCell ⟨w2.heap.size + 1, 0, none⟩ (.slice (some ⟨g3, 0, none⟩) (k + 1) cap3))) := by
              have hat : g3 = G ∨ g3 = (wr.alloc (.cells #[.int .i64 kw, .int .i64 T5, .int .i64 M5, .int .i64 W5, .slice b4 n4 d4, .slice b5 n5 d5, .int .i64 L5, .int .i64 R5] 67)).heap.size := by
                rcases hat3 with e | e
                · exact Or.inl (by simpa [Value.ownBlock] using e.symm)
                · exact Or.inr e
              have hne3 : g3 ≠ w2.heap.size + 1 := by
                rcases hat with e | e
                · rw [e]; exact hGne
                · rw [e]; simp; omega
              have hpush : GrowF w9 w2.heap.size (w2.heap.size + 2) g3 cap3 (k + 1) (cs ++ [.int .i64 kw, .int .i64 T5, .int .i64 M5, .int .i64 W5, .slice b4 n4 d4, .slice b5 n5 d5, .int .i64 L5, .int .i64 R5]) (simpTo ts fs Rt (k + 1)) := by
                rw [unhide HTk, unhide HPn]
                exact GrowF.push (p := ⟨kw, T5, M5, W5, Ex5, Exs5, L5, R5⟩) (unhide HGF) (unhide H4j) (unhide H5j) hown3 hgrow3 hat
              have hlow9 : Below w2.heap.size w2 w9 := (unhide HBj).grown hgrow3 (by simp; omega) (fun b hb => by
                have : G = b := by simpa [Value.ownBlock] using hb
                omega)
              exact ⟨hpush.stored (by omega) (Ne.symm hne3) _, hne3, by simp [go_sem, z0], by simp [go_sem, z1], fun o => by simp [go_sem, z2], hlow9.setCell (by dsimp only; omega) _, by simp; omega⟩
            clear hown3 hgrow3 hat3 HGF H4j H5j HBj HNw HFar HTk HPn
            go_wp2
            go_roundw
            case rel => exact ⟨k + 1, g3, cap3, _, by omega, by go_num, unhide HSL⟩
            case measure => simp [intOf]; omega
      · have hA' : ¬ (0 : Int) < (A : Int) := by omega
        obtain ⟨f0, f1, f2, f3, f4, f5, f6, f7, fz⟩ := id N4
        go_wp2
        have HPack : Hid (∃ (K5 T5 M5 W5 L5 R5 : Int) (b4 b5 : Option Addr) (n4 d4 n5 d5 : Nat) (Ex5 : List O2) (Exs5 : List (List O2)), N8 w3.heap.size K5 T5 M5 W5 L5 R5 (.slice b4 n4 d4) (.slice b5 n5 d5) w4 ∧ (∀ o, w4.frozen? ⟨w3.heap.size, o, none⟩ = false) ∧ Below wo.heap.size wo w4 ∧ OpsM w4 (.slice b4 n4 d4) Ex5 (fun b => wo.heap.size ≤ b ∧ b ≠ w3.heap.size) ∧ OpssM w4 (.slice b5 n5 d5) Exs5 (fun b => wo.heap.size ≤ b ∧ b ≠ w3.heap.size) (fun _ b => wo.heap.size ≤ b ∧ b ≠ w3.heap.size) ∧ pn = ⟨laterK ts fs Rt k K5 fs.length, T5, M5, W5, Ex5, Exs5, L5, R5⟩) := ⟨K, T, M, Wd, L, R, a4, a5, Ex.length, c4, Exs.length, c5, Ex, Exs, N4, nf4, e4, unhide G4, unhide G5, by
          rw [unhide HSn]
          simp only [hA0, if_false]⟩
        obtain ⟨K5, T5, M5, W5, L5, R5, b4, b5, n4, d4, n5, d5, Ex5, Exs5, hN, hNf, hE, hO4, hO5, hpn⟩ := unhide HPack
        have HO4 := hide hO4; have HO5 := hide hO5; have HPn := hide hpn
        clear HPack hO4 hO5 hpn f0 f1 f2 f3 f4 f5 f6 f7
        clear N4 G4 G5 HSn nf4 fz hA' HPk
        clear fp frt fd fs0 fs1
        go_loopw [15] (fun c wi => ∃ j : Nat, k + 1 ≤ j ∧ j ≤ fs.length ∧ c = .int .i64 (j : Int) ∧ Below wo.heap.size wo wi ∧ N8 w3.heap.size (laterK ts fs Rt k K5 j) T5 M5 W5 L5 R5 (.slice b4 n4 d4) (.slice b5 n5 d5) wi ∧ (∀ o, wi.frozen? ⟨w3.heap.size, o, none⟩ = false) ∧ OpsM wi (.slice b4 n4 d4) Ex5 (fun b => wo.heap.size ≤ b ∧ b ≠ w3.heap.size) ∧ OpssM wi (.slice b5 n5 d5) Exs5 (fun b => wo.heap.size ≤ b ∧ b ≠ w3.heap.size) (fun _ b => wo.heap.size ≤ b ∧ b ≠ w3.heap.size)) (fun c _ => fs.length - (intOf c).toNat)
        case atStart => exact ⟨k + 1, Nat.le_refl _, by omega, by go_num, hE, by rw [unhide HLs _ (k + 1) (Nat.le_refl _)]; exact hN, hNf, unhide HO4, unhide HO5⟩
        case round =>
          clear hN hNf hE HO4 HO5
          obtain ⟨j, hj0, hj1, rfl, hbi, hNi, hNfi, h4i, h5i⟩ := hrel
          have H4i := hide h4i; have H5i := hide h5i
          clear h4i h5i
          have hli := bT hlow hbi
          obtain ⟨fp, frt, fd, fs0, fs1⟩ := unhide HF2 wr hli
          have hgi : g < wr.heap.size := Nat.lt_of_lt_of_le hg2 hli.size
          by_cases hjl : j < fs.length
          · obtain ⟨-, -, -, -, y6, -⟩ := (unhide HFn wr hli).at j hjl
            simp only [Nat.zero_add] at y6
            have jj1 : (j : Int) < (fs.length : Int) := by omega
            have HAj := hide (unhide HAs j hjl)
            have HLk := hide (laterK_succ ts fs Rt k K5 j hjl (by omega))
            obtain ⟨Aj, hAj⟩ : ∃ Aj, asksP ts fs Rt fs[j] = Aj := ⟨_, rfl⟩
            have hAj2 : Aj ≤ 2 := by rw [← hAj]; exact asksP_le _ _ _ _
            rw [hAj] at HAj HLk
            clear hAj
            generalize (fs[j]).L = Lj at *
            by_cases hLj : Lj = (k : Int)
            · have hLb : (Lj == (k : Int)) = true := by simp [hLj]
              by_cases hAj0 : 0 < Aj
              · have hAi : (0 : Int) < (Aj : Int) := by omega
                have hAi2 : (Aj : Int) ≤ 2 := by omega
                have HV : Hid (laterK ts fs Rt k K5 (j + 1) = 10 + (Aj : Int) - 1) := by
                  show _ = _
                  rw [unhide HLk, if_pos ⟨hLj, hAj0⟩]
                clear HLk hLj hAj0
                obtain ⟨kv, hkv⟩ : ∃ kv, laterK ts fs Rt k K5 (j + 1) = kv := ⟨_, rfl⟩
                rw [hkv] at HV
                have HKv := hide hkv
                clear hkv
                generalize laterK ts fs Rt k K5 j = kw at *
                go_wp2_with fail
                refine (unhide HAj _ hli).mono ?_; rintro e w7 ⟨rfl, hb7⟩
                have l7 := bT hli hb7
                clear fp frt fd fs0 fs1 y6
                obtain ⟨fp, frt, fd, fs0, fs1⟩ := unhide HF2 w7 l7
                go_wp2_with fail
                refine (unhide HAj _ l7).mono ?_; rintro e w8 ⟨rfl, hb8⟩
                have b78 := bT hb7 hb8
                have hN8 := hNi.of b78
                have hNf8 : ∀ o, w8.frozen? ⟨w3.heap.size, o, none⟩ = false := fun o => (b78.frozen (p := ⟨w3.heap.size, o, none⟩) hNi.sz).trans (hNfi o)
                have H48 := hide (((unhide H4i).of b78).stored (o := 0) (fun b e => e.2) (.int .i64 kv))
                have H58 := hide (((unhide H5i).of b78).stored (o := 0) (fun b e => e.2) (fun _ b e => e.2) (.int .i64 kv))
                have HB8 := hide ((bT hbi b78).setCell (p := ⟨w3.heap.size, 0, none⟩) (by dsimp only; omega) (.int .i64 kv))
                obtain ⟨f0, f1, f2, f3, f4, f5, f6, f7, fz8⟩ := id hN8
                have HN9 : Hid (N8 w3.heap.size kv T5 M5 W5 L5 R5 (.slice b4 n4 d4) (.slice b5 n5 d5) (w8.setCell ⟨w3.heap.size, 0, none⟩ (.int .i64 kv))) := ⟨by simp [go_sem, f0], by simp [go_sem, f1], by simp [go_sem, f2], by simp [go_sem, f3], by simp [go_sem, f4], by simp [go_sem, f5], by simp [go_sem, f6], by simp [go_sem, f7], by simp; omega⟩
                have HF9 : Hid (∀ o, (w8.setCell ⟨w3.heap.size, 0, none⟩ (.int .i64 kv)).frozen? ⟨w3.heap.size, o, none⟩ = false) := fun o => by simp [go_sem, hNf8]
                rw [unhide HV] at HN9 HF9 H48 H58 HB8
                clear hb7 hb8 b78 hN8 H4i H5i HAj
                go_wp2
                go_roundw
                case rel => exact ⟨j + 1, by omega, by omega, by go_num, unhide HB8, by rw [unhide HKv, unhide HV]; exact unhide HN9, unhide HF9, unhide H48, unhide H58⟩
                case measure => simp [intOf]; omega
              · have hAi : ¬ (0 : Int) < (Aj : Int) := by omega
                have HV : Hid (laterK ts fs Rt k K5 (j + 1) = laterK ts fs Rt k K5 j) := by
                  show _ = _
                  rw [unhide HLk, if_neg (fun h => hAj0 h.2)]
                clear HLk hLj hAj0
                go_wp2_with fail
                refine (unhide HAj _ hli).mono ?_; rintro e w7 ⟨rfl, hb7⟩
                have hNf7 : ∀ o, w7.frozen? ⟨w3.heap.size, o, none⟩ = false := fun o => (hb7.frozen (p := ⟨w3.heap.size, o, none⟩) hNi.sz).trans (hNfi o)
                have hN7 := hide (hNi.of hb7)
                have H47 := hide ((unhide H4i).of hb7)
                have H57 := hide ((unhide H5i).of hb7)
                have HB7 := hide (bT hbi hb7)
                clear hb7 H4i H5i HAj
                go_wp2
                go_roundw
                case rel => exact ⟨j + 1, by omega, by omega, by go_num, unhide HB7, by rw [unhide HV]; exact unhide hN7, hNf7, unhide H47, unhide H57⟩
                case measure => simp [intOf]; omega
            · have hLb : (Lj == (k : Int)) = false := by simp [hLj]
              have HV : Hid (laterK ts fs Rt k K5 (j + 1) = laterK ts fs Rt k K5 j) := by
                show _ = _
                rw [unhide HLk, if_neg (fun h => hLj h.1)]
              clear HLk hLj HAj
              go_wp2
              go_roundw
              case rel => exact ⟨j + 1, by omega, by omega, by go_num, hbi, by rw [unhide HV]; exact hNi, hNfi, unhide H4i, unhide H5i⟩
              case measure => simp [intOf]; omega
          · obtain rfl : j = fs.length := by omega
            have jn : ¬ (fs.length : Int) < (fs.length : Int) := by omega
            generalize laterK ts fs Rt k K5 fs.length = kw at *
            have m9 := (unhide HS).of hbi
            have o0 := m9.o0
            have o1 := m9.o1
            have ofz := m9.ofz
            have hsz9 := m9.sz
            have hGne := m9.ne
            have ob9 : w2.heap.size + 1 < wr.heap.size := by omega
            have hxj := bA (Below.refl wr.heap.size wr) (.cells #[.int .i64 kw, .int .i64 T5, .int .i64 M5, .int .i64 W5, .slice b4 n4 d4, .slice b5 n5 d5, .int .i64 L5, .int .i64 R5] 67)
            have HGF := hide (m9.gr.of hxj)
            have H4j : Hid (OpsM (wr.alloc (.cells #[.int .i64 kw, .int .i64 T5, .int .i64 M5, .int .i64 W5, .slice b4 n4 d4, .slice b5 n5 d5, .int .i64 L5, .int .i64 R5] 67)) (.slice b4 n4 d4) Ex5 (fun b => w2.heap.size + 2 ≤ b ∧ b ≠ G)) := ((unhide H4i).of hxj).mono (fun b _ e => by omega)
            have H5j : Hid (OpssM (wr.alloc (.cells #[.int .i64 kw, .int .i64 T5, .int .i64 M5, .int .i64 W5, .slice b4 n4 d4, .slice b5 n5 d5, .int .i64 L5, .int .i64 R5] 67)) (.slice b5 n5 d5) Exs5 (fun b => w2.heap.size + 2 ≤ b ∧ b ≠ G) (fun _ b => w2.heap.size + 2 ≤ b ∧ b ≠ G)) := ((unhide H5i).of hxj).mono (fun b _ e => by omega) (fun _ b _ e => by omega)
            have HBj := hide (bT m9.low hxj)
            have HNw : Hid (∀ j u, ([.int .i64 kw, .int .i64 T5, .int .i64 M5, .int .i64 W5, .slice b4 n4 d4, .slice b5 n5 d5, .int .i64 L5, .int .i64 R5] : List Value)[j]? = some u → (wr.alloc (.cells #[.int .i64 kw, .int .i64 T5, .int .i64 M5, .int .i64 W5, .slice b4 n4 d4, .slice b5 n5 d5, .int .i64 L5, .int .i64 R5] 67)).cell? ((⟨wr.heap.size, 0, none⟩ : Addr).add j) = some u) := World.news_of_block (cs := #[.int .i64 kw, .int .i64 T5, .int .i64 M5, .int .i64 W5, .slice b4 n4 d4, .slice b5 n5 d5, .int .i64 L5, .int .i64 R5]) (MapKept.heap_alloc wr _).1
            have HFar : Hid (∀ w9, (wr.alloc (.cells #[.int .i64 kw, .int .i64 T5, .int .i64 M5, .int .i64 W5, .slice b4 n4 d4, .slice b5 n5 d5, .int .i64 L5, .int .i64 R5] 67)).grownBy w9 (Value.slice (some ⟨G, 0, none⟩) k c').ownBlock → w9.cell? ⟨w2.heap.size + 1, 0, none⟩ = some (.slice (some ⟨G, 0, none⟩) k c') ∧ w9.cell? ⟨w2.heap.size + 1, 1, none⟩ = some (.int .i64 Rt) ∧ (∀ o, w9.frozen? ⟨w2.heap.size + 1, o, none⟩ = false) ∧ w2.heap.size + 1 < w9.heap.size) := fun w9 hgr => by
              have hne : some (w2.heap.size + 1) ≠ (Value.slice (some ⟨G, 0, none⟩) k c').ownBlock := by simp [Value.ownBlock]; omega
              have hl9 : w2.heap.size + 1 < (wr.alloc (.cells #[.int .i64 kw, .int .i64 T5, .int .i64 M5, .int .i64 W5, .slice b4 n4 d4, .slice b5 n5 d5, .int .i64 L5, .int .i64 R5] 67)).heap.size := by simp; omega
              exact ⟨(hgr.cell_far ⟨w2.heap.size + 1, 0, none⟩ hl9 hne).trans ((hxj.cell (p := ⟨w2.heap.size + 1, 0, none⟩) ob9).trans o0), (hgr.cell_far ⟨w2.heap.size + 1, 1, none⟩ hl9 hne).trans ((hxj.cell (p := ⟨w2.heap.size + 1, 1, none⟩) ob9).trans o1), fun o => (hgr.frozen_far ⟨w2.heap.size + 1, o, none⟩ hl9 hne).trans ((hxj.frozen (p := ⟨w2.heap.size + 1, o, none⟩) ob9).trans (ofz o)), Nat.lt_of_lt_of_le hl9 hgr.size⟩
            have hkm : k < 8000 := by omega
            obtain ⟨f0, f1, f2, f3, f4, f5, f6, f7, fz9⟩ := id hNi
            clear hxj m9 H4i H5i
            go_upto_region 8 with (at_builtin; refine wpList_append_lies _ rfl (.tmp 104) (.tmp 106) 30 rfl w2.heap.size 67 i' _ 8 96 Tryz.underlying30 hi' hz0' hz1' hz2' rfl (by decide) (.slice (some ⟨G, 0, none⟩) k c') k cs rfl (unhide HGF).own ⟨wr.heap.size, 0, none⟩ 1 1 [.int .i64 kw, .int .i64 T5, .int .i64 M5, .int .i64 W5, .slice b4 n4 d4, .slice b5 n5 d5, .int .i64 L5, .int .i64 R5] rfl rfl (unhide HNw) (by intro u hu; simp at hu; rcases hu with rfl | rfl | rfl | rfl | rfl | rfl | rfl | rfl <;> rfl) (by decide) (by unfold maxLen; omega) (by omega) (by simp; omega) _ rfl ?_; intro g3 cap3 w9 hown3 hgrow3 hat3 hlt3; obtain ⟨z0, z1, z2, z3⟩ := unhide HFar w9 hgrow3)
            have HSL : Hid (SL w2 ts fs Rt (k + 1) g3 cap3 (cs ++ [.int .i64 kw, .int .i64 T5, .int .i64 M5, .int .i64 W5, .slice b4 n4 d4, .slice b5 n5 d5, .int .i64 L5, .int .i64 R5]) (w9.setCell ⟨w2.heap.size + 1, 0, none⟩ (.slice (some ⟨g3, 0, none⟩) (k + 1) cap3))) := by
              have hat : g3 = G ∨ g3 = (wr.alloc (.cells #[.int .i64 kw, .int .i64 T5, .int .i64 M5, .int .i64 W5, .slice b4 n4 d4, .slice b5 n5 d5, .int .i64 L5, .int .i64 R5] 67)).heap.size := by
                rcases hat3 with e | e
                · exact Or.inl (by simpa [Value.ownBlock] using e.symm)
                · exact Or.inr e
              have hne3 : g3 ≠ w2.heap.size + 1 := by
                rcases hat with e | e
                · rw [e]; exact hGne
                · rw [e]; simp; omega
              have hpush : GrowF w9 w2.heap.size (w2.heap.size + 2) g3 cap3 (k + 1) (cs ++ [.int .i64 kw, .int .i64 T5, .int .i64 M5, .int .i64 W5, .slice b4 n4 d4, .slice b5 n5 d5, .int .i64 L5, .int .i64 R5]) (simpTo ts fs Rt (k + 1)) := by
                rw [unhide HTk, unhide HPn]
                exact GrowF.push (p := ⟨kw, T5, M5, W5, Ex5, Exs5, L5, R5⟩) (unhide HGF) (unhide H4j) (unhide H5j) hown3 hgrow3 hat
              have hlow9 : Below w2.heap.size w2 w9 := (unhide HBj).grown hgrow3 (by simp; omega) (fun b hb => by
                have : G = b := by simpa [Value.ownBlock] using hb
                omega)
              exact ⟨hpush.stored (by omega) (Ne.symm hne3) _, hne3, by simp [go_sem, z0], by simp [go_sem, z1], fun o => by simp [go_sem, z2], hlow9.setCell (by dsimp only; omega) _, by simp; omega⟩
            clear hown3 hgrow3 hat3 HGF H4j H5j HBj HNw HFar HTk HPn
            go_wp2
            go_roundw
            case rel => exact ⟨k + 1, g3, cap3, _, by omega, by go_num, unhide HSL⟩
            case measure => simp [intOf]; omega
    · obtain rfl : k = fs.length := by omega
      obtain ⟨o0, o1, ofz⟩ := And.intro hS.o0 (And.intro hS.o1 hS.ofz)
      have r0' := (hlow.cell (p := ⟨w.heap.size + 2, 0, none⟩) rs).trans r0
      have r1' := (hlow.cell (p := ⟨w.heap.size + 2, 1, none⟩) rs).trans r1
      have rf' : ∀ o, wo.frozen? ⟨w.heap.size + 2, o, none⟩ = false := fun o => (hlow.frozen (p := ⟨w.heap.size + 2, o, none⟩) rs).trans (rf o)
      have ob1 : w2.heap.size + 1 < wo.heap.size := by omega
      have rs' : w.heap.size + 2 < wo.heap.size := Nat.lt_of_lt_of_le rs hlow.size
      go_wp2
      refine bodyPost_ret (v := .tuple #[.agg #[.slice (some ⟨G, 0, none⟩) fs.length c', .int .i64 Rt], .bool true]) (by simp [results, Tryz.results7, go_sem, r0', r1']) rfl ⟨_, rfl, ?_, ?_⟩
      · exact fun W' hk => (((unhide HS).gr.stored (g := w.heap.size + 2) (o := 0) (by omega) (by omega) _).stored (g := w.heap.size + 2) (o := 1) (by omega) (by omega) _).keeps (by omega) (by omega) hk
      · exact ((bT n2 hlow).setCell (p := ⟨w.heap.size + 2, 0, none⟩) (by dsimp only; omega) _).setCell (p := ⟨w.heap.size + 2, 1, none⟩) (by dsimp only; omega) _

set_option maxRecDepth 100000 in
set_option maxHeartbeats 4000000 in
theorem sSimplify_no (ts : List Tb) (fs : List Fn) (Rt : Int) (g cap gt capt : Nat) (w : World) (lt : ts.length ≤ 1048576) (hsm : SmallT ts) (fit : ∀ p ∈ fs, p.Ex.length ≤ 1048576 ∧ p.Exs.length ≤ 1048576 ∧ ∀ xs ∈ p.Exs, xs.length ≤ 1048576)
    (hg : g < w.heap.size) (hn : FnsAt w g 0 fs) (hgt : gt < w.heap.size) (ht : TablesAt w gt 0 ts) (hV : ¬ FlatV ts fs Rt) :
    Calls Tryz.prog 7 #[.agg #[.slice (some ⟨g, 0, none⟩) fs.length cap, .int .i64 Rt], .agg #[.slice (some ⟨gt, 0, none⟩) ts.length capt]] w fun e w' => e = .returned (.tuple #[.agg #[.slice none 0 0, .int .i64 0], .bool false]) ∧ Below w.heap.size w w' := by
  have HF := hide (fun W (hb : Below w.heap.size w W) => sFlatOk_calls ts fs Rt g cap gt capt W lt hsm fit (Nat.lt_of_lt_of_le hg hb.size) (hn.of hg hb) (Nat.lt_of_lt_of_le hgt hb.size) (ht.of hgt hb))
  rw [flatE_no hV] at HF
  clear hsm fit hn ht hV
  go_enter Tryz.func7, Tryz.ntmps7
  go_wp2_with fail
  refine (unhide HF _ (bA (bA (bA (Below.refl _ _) _) _) _)).mono ?_; rintro e w1 ⟨rfl, hb⟩
  have n1 := bT (bA (bA (bA (Below.refl w.heap.size w) _) _) _) hb
  have r0 : w1.cell? ⟨w.heap.size + 2, 0, none⟩ = some (.slice none 0 0) := (hb.cell (p := ⟨w.heap.size + 2, 0, none⟩) (by simp)).trans (by simp [go_sem])
  have r1 : w1.cell? ⟨w.heap.size + 2, 1, none⟩ = some (.int .i64 0) := (hb.cell (p := ⟨w.heap.size + 2, 1, none⟩) (by simp)).trans (by simp [go_sem])
  have rf : ∀ o, w1.frozen? ⟨w.heap.size + 2, o, none⟩ = false := fun o => (hb.frozen (p := ⟨w.heap.size + 2, o, none⟩) (by simp)).trans (by simp [go_sem])
  have rs : w.heap.size + 2 < w1.heap.size := by have := hb.size; simp at this; omega
  clear hb
  go_wp2
  refine bodyPost_ret (v := .tuple #[.agg #[.slice none 0 0, .int .i64 0], .bool false]) (by simp [results, Tryz.results7, go_sem, r0, r1]) rfl ⟨rfl, ?_⟩
  (repeat (first | refine Below.setCell ?_ (by dsimp only; omega) _ | exact n1))
end Go.Proofs.YtnchcndcinpalaaGreatDoor
