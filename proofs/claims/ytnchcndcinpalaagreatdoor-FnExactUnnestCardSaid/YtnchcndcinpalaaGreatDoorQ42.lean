import Derived.Test.YtnchcndcinpalaaGreatDoorQ33
import Derived.Test.YtnchcndcinpalaaGreatDoorImplUn3
import Derived.Test.YtnchcndcinpalaaGreatDoorImplUn4
import Derived.Test.YtnchcndcinpalaaGreatDoorImplUn5
import Derived.Test.YtnchcndcinpalaaGreatDoorImplUn6
import Derived.Test.YtnchcndcinpalaaGreatDoorImplUn7
import Derived.Test.YtnchcndcinpalaaGreatDoorImplUn8
import Derived.Test.YtnchcndcinpalaaGreatDoorImplUn9
import Derived.Test.YtnchcndcinpalaaGreatDoorImplUn10
import Derived.Test.YtnchcndcinpalaaGreatDoorQ22
import Derived.Test.YtnchcndcinpalaaGreatDoorQ23
namespace Go.Proofs.YtnchcndcinpalaaGreatDoor
open Go Go.RowKit
theorem unnest_calls (ts : List Tb) (ps : List Pn) (g cap bw U : Nat) (w0 : World) (hb : IBase ts ps g bw U w0) : ∀ (f i : Nat), i < f → i < ps.length → ∀ (d w : Int) (out : List Fn) (G c : Nat) (cs : List Value) (lab : Lb) (W : World), 0 ≤ w → 0 ≤ wid ts ps i w → UBox W U (.slice (some ⟨g, 0, none⟩) ps.length cap) (.slice (some ⟨bw, 0, none⟩) ps.length ps.length) (.slice (some ⟨G, 0, none⟩) out.length c) → GrowL W lab (U + 1) G c out.length cs out → Below w0.heap.size w0 W → out.length + 2 * szP ps i ≤ 5000 →
    Calls Tryz.prog 48 #[.pointer (some ⟨U, 0, none⟩), .int .i64 (i : Int), .int .i64 d, .int .i64 w] W (IPost ts ps U (.slice (some ⟨g, 0, none⟩) ps.length cap) (.slice (some ⟨bw, 0, none⟩) ps.length ps.length) f i d w out G lab W) := by
  intro f
  induction f with
  | zero => intro i hi; omega
  | succ f ih =>
    intro i hif hi d w out G c cs lab W h0 h1 hu h2 h3 h4
    have H : IHyp ts ps g cap bw U w0 f i := ⟨hb, fun q hq => ih q (by omega) (by omega)⟩
    have hF := hb.good.fld i hi
    have k1 : 1 ≤ (ps[i]).K := hF.1
    have k2 : (ps[i]).K ≤ 10 := hF.2.1
    have hc : (ps[i]).K = 1 ∨ (ps[i]).K = 2 ∨ (ps[i]).K = 3 ∨ (ps[i]).K = 4 ∨ (ps[i]).K = 5 ∨ (ps[i]).K = 6 ∨ (ps[i]).K = 7 ∨ (ps[i]).K = 8 ∨ (ps[i]).K = 9 ∨ (ps[i]).K = 10 := by omega
    rcases hc with hK | hK | hK | hK | hK | hK | hK | hK | hK | hK
    · exact I_1 ts ps g cap bw U w0 f i H hi (by omega) hK d w out G c cs lab W h0 h1 hu h2 h3 h4
    · exact I_2 ts ps g cap bw U w0 f i H hi (by omega) hK d w out G c cs lab W h0 h1 hu h2 h3 h4
    · exact I_3 ts ps g cap bw U w0 f i H hi (by omega) hK d w out G c cs lab W h0 h1 hu h2 h3 h4
    · exact I_4 ts ps g cap bw U w0 f i H hi (by omega) hK d w out G c cs lab W h0 h1 hu h2 h3 h4
    · exact I_5 ts ps g cap bw U w0 f i H hi (by omega) hK d w out G c cs lab W h0 h1 hu h2 h3 h4
    · exact I_6 ts ps g cap bw U w0 f i H hi (by omega) hK d w out G c cs lab W h0 h1 hu h2 h3 h4
    · exact I_7 ts ps g cap bw U w0 f i H hi (by omega) hK d w out G c cs lab W h0 h1 hu h2 h3 h4
    · exact I_8 ts ps g cap bw U w0 f i H hi (by omega) hK d w out G c cs lab W h0 h1 hu h2 h3 h4
    · exact I_9 ts ps g cap bw U w0 f i H hi (by omega) hK d w out G c cs lab W h0 h1 hu h2 h3 h4
    · exact I_10 ts ps g cap bw U w0 f i H hi (by omega) hK d w out G c cs lab W h0 h1 hu h2 h3 h4
set_option maxRecDepth 100000 in
set_option maxHeartbeats 4000000 in
theorem add_nil (U : Nat) (pl wd : Value) (W : World) (hU : UBox W U pl wd (.slice none 0 0)) :
    Calls Tryz.prog 47 #[.pointer (some ⟨U, 0, none⟩), .agg #[.int .i64 1, .int .i64 0, .int .i64 0, .int .i64 0, .slice none 0 0, .slice none 0 0, .int .i64 0, .int .i64 0]] W fun e w' => ∃ G2 c2, e = .returned (.int .i64 0) ∧ UBox w' U pl wd (.slice (some ⟨G2, 0, none⟩) 1 c2) ∧ GrowL w' (fun _ => (4, 0, 0)) (U + 1) G2 c2 1 [.int .i64 1, .int .i64 0, .int .i64 0, .int .i64 0, .slice none 0 0, .slice none 0 0, .int .i64 0, .int .i64 0] [⟨1, 0, 0, 0, [], [], 0, 0⟩] ∧ ButB (fun b => b = U) W w' := by
  obtain ⟨ii, hii, hz⟩ := Option.map_eq_some_iff.1 (show (Tryz.prog.info? 67).map (fun i => (i.zero, i.size, i.bytes)) = some (some (.agg #[.int .i64 0, .int .i64 0, .int .i64 0, .int .i64 0, .slice none 0 0, .slice none 0 0, .int .i64 0, .int .i64 0]), 8, 96) by kernel_rfl)
  simp only [Prod.mk.injEq] at hz
  obtain ⟨hz0, hz1, hz2⟩ := hz
  have u2 := hU.c2
  have uf := hU.fz
  have us := hU.sz
  have HU := hide hU
  clear hU
  go_enter Tryz.func47, Tryz.ntmps47
  go_upto_region 1 with fail
  go_region_law (first
    | (have hd : Below W.heap.size W ((W.alloc (.cells #[.int .i64 1, .int .i64 0, .int .i64 0, .int .i64 0, .slice none 0 0, .slice none 0 0, .int .i64 0, .int .i64 0] 67)).alloc (.cells #[.int .i64 1, .int .i64 0, .int .i64 0, .int .i64 0, .slice none 0 0, .slice none 0 0, .int .i64 0, .int .i64 0] 67)).drew := Below.drew (bA (bA (Below.refl _ _) _) _)
       refine step_append_lies _ rfl (.tmp 9) (.tmp 11) 30 rfl (U + 1) 67 ii _ 8 96 Tryz.underlying30 hii hz0 hz1 hz2 rfl (by decide) (.slice none 0 0) 0 [] rfl (World.ownsRow_nil _ _ _ _) ⟨_, 0, none⟩ 1 1 [.int .i64 1, .int .i64 0, .int .i64 0, .int .i64 0, .slice none 0 0, .slice none 0 0, .int .i64 0, .int .i64 0] rfl rfl (World.news_of_block (cs := #[.int .i64 1, .int .i64 0, .int .i64 0, .int .i64 0, .slice none 0 0, .slice none 0 0, .int .i64 0, .int .i64 0]) (B := W.heap.size + 1) (by have h' := (MapKept.heap_alloc (W.alloc (.cells #[.int .i64 1, .int .i64 0, .int .i64 0, .int .i64 0, .slice none 0 0, .slice none 0 0, .int .i64 0, .int .i64 0] 67)) (.cells #[.int .i64 1, .int .i64 0, .int .i64 0, .int .i64 0, .slice none 0 0, .slice none 0 0, .int .i64 0, .int .i64 0] 67)).1; rw [show (W.alloc (.cells #[.int .i64 1, .int .i64 0, .int .i64 0, .int .i64 0, .slice none 0 0, .slice none 0 0, .int .i64 0, .int .i64 0] 67)).heap.size = W.heap.size + 1 by simp] at h'; exact h')) (by intro u hu; simp at hu; rcases hu with rfl | rfl | rfl | rfl | rfl | rfl | rfl | rfl <;> rfl) (by decide) (by unfold maxLen; omega) (by omega) (by (try simp); omega) _ rfl ?_
       intro G2 c2 w9 hown hgr hat hlt
       have hG2 : G2 = W.heap.size + 2 := by
         rcases hat with e | e
         · simp [Value.ownBlock] at e
         · rw [e]; simp
       have hBg : ButB (fun _ => False) ((W.alloc (.cells #[.int .i64 1, .int .i64 0, .int .i64 0, .int .i64 0, .slice none 0 0, .slice none 0 0, .int .i64 0, .int .i64 0] 67)).alloc (.cells #[.int .i64 1, .int .i64 0, .int .i64 0, .int .i64 0, .slice none 0 0, .slice none 0 0, .int .i64 0, .int .i64 0] 67)).drew w9 := ButB.grown hgr (fun b e => by simp [Value.ownBlock] at e)
       have hUx := ((unhide HU).of hd).butB hBg (fun e => e)
       have hG9 : GrowL w9 (fun _ => (4, 0, 0)) (U + 1) G2 c2 1 [.int .i64 1, .int .i64 0, .int .i64 0, .int .i64 0, .slice none 0 0, .slice none 0 0, .int .i64 0, .int .i64 0] [⟨1, 0, 0, 0, [], [], 0, 0⟩] := ⟨hown, rfl, rfl, fun b h => by simp at h, fun i p hp => by
         have hi := (List.getElem?_eq_some_iff.1 hp).1
         simp at hi
         subst hi
         simp at hp
         subst hp
         exact ⟨.slice none 0 0, .slice none 0 0, fun o v hv => by simpa [vFn] using hv, Or.inl ⟨rfl, _, _, rfl⟩, Or.inl ⟨rfl, _, _, rfl⟩⟩⟩
       have hBs : ButB (fun b => b = U) w9 (w9.setCell ⟨U, 2, none⟩ (.slice (some ⟨G2, 0, none⟩) 1 c2)) := ButB.set (S := fun b => b = U) (ButB.refl _ _) (Or.inl rfl) _
       have HGf := hide (hG9.butB hBs (by omega) (fun b h => by simp at h))
       have HUf := hide (hUx.set (.slice (some ⟨G2, 0, none⟩) 1 c2))
       have HBf : Hid (ButB (fun b => b = U) W (w9.setCell ⟨U, 2, none⟩ (.slice (some ⟨G2, 0, none⟩) 1 c2))) := ((ButB.ofBelow hd).trans (hBg.mono (fun b e => e.elim))).trans hBs
       have v2 := hUx.c2
       have vf := hUx.fz
       have vs := hUx.sz
       clear hd hown hgr hat hBg hUx hG9 hBs hlt hG2))
  all_goals (
    clear u2 uf us
    go_wp2
    go_ret
    exact ⟨G2, c2, by first | rfl | simp [go_sem], unhide HUf, unhide HGf, unhide HBf⟩)
set_option maxRecDepth 100000 in
set_option maxHeartbeats 8000000 in
theorem Unnest_calls (ts : List Tb) (ps : List Pn) (g cap gt capt : Nat) (w : World) (lp : ps.length ≤ 1048576) (lt : ts.length ≤ 1048576) (hsm : SmallT ts) (fit : ∀ p ∈ ps, p.Ex.length ≤ 1048576 ∧ p.Exs.length ≤ 1048576 ∧ ∀ xs ∈ p.Exs, xs.length ≤ 1048576)
    (hg : g < w.heap.size) (hn : PnsAt w g 0 ps) (hgt : gt < w.heap.size) (ht : TablesAt w gt 0 ts) (hTK : TKw w) (hTP : TPlan w) (hTT : TTakes w) (hTF : TFlat w) (hTk : TKinds w) :
    Calls Tryz.prog 19 #[.agg #[.slice (some ⟨g, 0, none⟩) ps.length cap], .agg #[.slice (some ⟨gt, 0, none⟩) ts.length capt]] w fun e w' =>
      ((PlanV ts ps ∧ ∃ (G k : Nat) (lab : Lb), e = .returned (.tuple #[.agg #[.slice (some ⟨G, 0, none⟩) (unN ts ps).1.length k, .int .i64 (unN ts ps).2], .bool true]) ∧ FlM w' lab G (unN ts ps).1 ∧ (∀ b, (lab b).1 ≤ 3 → w.heap.size ≤ b ∧ b < w'.heap.size)) ∨
        (¬ PlanV ts ps ∧ e = .returned (.tuple #[.agg #[.slice none 0 0, .int .i64 0], .bool false]))) ∧ Below w.heap.size w w' := by
  have HCk := hide (fun W (hb : Below w.heap.size w W) => checkPlan_calls ts ps g cap gt capt W lp lt hsm fit (Nat.lt_of_lt_of_le hg hb.size) (hn.of hg hb) (Nat.lt_of_lt_of_le hgt hb.size) (ht.of hgt hb) (hTK.of hb) (hTP.of hb) (hTT.of hb))
  have HN := hide hn; have HFit := hide fit; have HTF := hide hTF; have HTk := hide hTk; have HTP := hide hTP
  clear hsm fit ht hTK hTT hn hTF hTk hTP
  go_enter Tryz.func19, Tryz.ntmps19
  go_wp2_with fail
  refine (unhide HCk _ (bA (bA (bA (Below.refl _ _) _) _) _)).mono ?_; rintro e w1 ⟨hck, hb⟩
  have n1 := bT (bA (bA (bA (Below.refl w.heap.size w) _) _) _) hb
  have f0 : w1.cell? ⟨w.heap.size, 0, none⟩ = some (.slice (some ⟨g, 0, none⟩) ps.length cap) := (hb.cell (p := ⟨w.heap.size, 0, none⟩) (by simp; omega)).trans (by simp [go_sem])
  have r0 : w1.cell? ⟨w.heap.size + 2, 0, none⟩ = some (.slice none 0 0) := (hb.cell (p := ⟨w.heap.size + 2, 0, none⟩) (by simp)).trans (by simp [go_sem])
  have r1 : w1.cell? ⟨w.heap.size + 2, 1, none⟩ = some (.int .i64 0) := (hb.cell (p := ⟨w.heap.size + 2, 1, none⟩) (by simp)).trans (by simp [go_sem])
  have rf : ∀ o, w1.frozen? ⟨w.heap.size + 2, o, none⟩ = false := fun o => (hb.frozen (p := ⟨w.heap.size + 2, o, none⟩) (by simp)).trans (by simp [go_sem])
  have rs : w.heap.size + 2 < w1.heap.size := by have := hb.size; simp at this; omega
  rcases hck with ⟨hV, bw, rfl, hrow⟩ | ⟨hno, rfl⟩
  rotate_left
  · have HNo := hide hno
    clear hno HCk HN HFit HTF hb
    go_wp2
    refine bodyPost_ret (v := .tuple #[.agg #[.slice none 0 0, .int .i64 0], .bool false]) (by simp [results, Tryz.results19, go_sem, r0, r1]) rfl ⟨Or.inr ⟨unhide HNo, rfl⟩, ?_⟩
    (repeat (first | refine Below.setCell ?_ (by dsimp only; omega) _ | exact n1))
  have few : ps.length ≤ 2000 := hV.few
  have hs1 := hV.some
  have rs0 : w.heap.size < w1.heap.size := by omega
  have hIB : IBase ts ps g bw w1.heap.size w1 := ⟨hV.good, few, unhide HFit, Nat.lt_of_lt_of_le hg n1.size, (unhide HN).of hg n1, hrow, (unhide HTk).of n1, (unhide HTP).of n1, (unhide HTF).of n1, Nat.le_refl _⟩
  have HUn : Hid (∀ G c W, UBox W w1.heap.size (.slice (some ⟨g, 0, none⟩) ps.length cap) (.slice (some ⟨bw, 0, none⟩) ps.length ps.length) (.slice (some ⟨G, 0, none⟩) 1 c) → GrowL W (fun _ => (4, 0, 0)) (w1.heap.size + 1) G c 1 [.int .i64 1, .int .i64 0, .int .i64 0, .int .i64 0, .slice none 0 0, .slice none 0 0, .int .i64 0, .int .i64 0] [⟨1, 0, 0, 0, [], [], 0, 0⟩] → Below w1.heap.size w1 W → Calls Tryz.prog 48 #[.pointer (some ⟨w1.heap.size, 0, none⟩), .int .i64 ((ps.length : Int) - 1), .int .i64 0, .int .i64 0] W (IPostX w1.heap.size (.slice (some ⟨g, 0, none⟩) ps.length cap) (.slice (some ⟨bw, 0, none⟩) ps.length ps.length) (unN ts ps).1 (unN ts ps).2 G (fun _ => (4, 0, 0)) W)) := fun G c W h1 h2 h3 => by
    have h := unnest_calls ts ps g cap bw w1.heap.size w1 hIB ps.length (ps.length - 1) (by omega) (by omega) 0 0 [⟨1, 0, 0, 0, [], [], 0, 0⟩] G c _ _ W (by omega) hV.wide h1 h2 h3 (by rw [szP_root hV]; simp; omega)
    rw [show ((ps.length - 1 : Nat) : Int) = (ps.length : Int) - 1 by omega] at h
    exact h
  have HV := hide hV
  obtain ⟨r, hr⟩ : ∃ r, (unN ts ps).1 = r := ⟨_, rfl⟩
  obtain ⟨a, ha⟩ : ∃ a, (unN ts ps).2 = a := ⟨_, rfl⟩
  rw [hr, ha] at HUn
  have HR := hide hr; have HA0 := hide ha
  clear hr ha
  clear hV hrow HCk hb hIB HN HFit HTF HTk HTP
  have jj : ¬ (ps.length : Int) < 1 := by omega
  have hx := bA (Below.refl w1.heap.size w1) (.cells #[(.slice (some ⟨g, 0, none⟩) ps.length cap), (.slice (some ⟨bw, 0, none⟩) ps.length ps.length), .slice none 0 0] 91)
  have HA := hide (add_nil w1.heap.size (.slice (some ⟨g, 0, none⟩) ps.length cap) (.slice (some ⟨bw, 0, none⟩) ps.length ps.length) (w1.alloc (.cells #[(.slice (some ⟨g, 0, none⟩) ps.length cap), (.slice (some ⟨bw, 0, none⟩) ps.length ps.length), .slice none 0 0] 91)) ⟨by simp [go_sem], by simp [go_sem], by simp [go_sem], fun o => by simp [go_sem], by simp⟩)
  have HX := hide hx
  clear hx
  go_wp2_with fail
  refine (unhide HA).mono ?_; rintro e w2 ⟨G2, k2, rfl, hU2, hL2, hBt2⟩
  have hB2 : Below w1.heap.size w1 w2 := (unhide HX).trans (hBt2.below (by simp) (fun b e => by omega))
  have g0 := (hB2.cell (p := ⟨w.heap.size, 0, none⟩) rs0).trans f0
  have gs0 : w.heap.size < w2.heap.size := Nat.lt_of_lt_of_le rs0 hB2.size
  have HC := hide (unhide HUn G2 k2 w2 hU2 hL2 hB2)
  have hl2 := hL2.lt
  have HB2 := hide hB2
  clear hU2 hL2 hBt2 hB2 HA HX f0 HUn
  go_wp2_with fail
  refine (unhide HC).mono ?_; rintro e w3 ⟨lab3, G3, k3, cs3, rfl, hU3, hL3, -, hBt3, -⟩
  have hB3 : Below w1.heap.size w1 w3 := (unhide HB2).trans (hBt3.below (unhide HB2).size (fun b e => by omega))
  have v2 := hU3.c2
  have vs := hU3.sz
  replace r0 := (hB3.cell (p := ⟨w.heap.size + 2, 0, none⟩) rs).trans r0
  replace r1 := (hB3.cell (p := ⟨w.heap.size + 2, 1, none⟩) rs).trans r1
  replace rf : ∀ o, w3.frozen? ⟨w.heap.size + 2, o, none⟩ = false := fun o => (hB3.frozen (p := ⟨w.heap.size + 2, o, none⟩) rs).trans (rf o)
  have rs2 : w.heap.size + 2 < w3.heap.size := Nat.lt_of_lt_of_le rs hB3.size
  have hl3 := hL3.lt
  have HL3 := hide hL3; have HB3 := hide hB3
  clear hL3 hU3 hBt3 hB3 HB2 HC g0
  go_wp2
  refine bodyPost_ret (v := .tuple #[.agg #[.slice (some ⟨G3, 0, none⟩) r.length k3, .int .i64 a], .bool true]) (by simp [results, Tryz.results19, go_sem, r0, r1]) rfl ⟨Or.inl ⟨unhide HV, G3, k3, _, by rw [unhide HR, unhide HA0], by rw [unhide HR]; exact ((unhide HL3).butB (S := fun b => b = w.heap.size + 2) (ButB.set (S := fun b => b = w.heap.size + 2) (ButB.set (S := fun b => b = w.heap.size + 2) (ButB.refl _ _) (Or.inl rfl) _) (Or.inl rfl) _) (by omega) (fun b h e => by have := (unhide HL3).rng b h; omega)).flM.1, fun b hb => ?_⟩, ?_⟩
  · have := ((unhide HL3).flM).2 b hb
    exact ⟨by omega, by simpa using this.2⟩
  · exact ((bT n1 (unhide HB3)).setCell (p := ⟨w.heap.size + 2, 0, none⟩) (by dsimp only; omega) _).setCell (p := ⟨w.heap.size + 2, 1, none⟩) (by dsimp only; omega) _
end Go.Proofs.YtnchcndcinpalaaGreatDoor
namespace Go.Proofs.YtnchcndcinpalaaGreatDoor
open Go Go.RowKit
theorem FnM.relab {w : World} {lab lab' : Lb} {G i : Nat} {p : Fn} (h : FnM w lab G i p) (hl : ∀ b, b < w.heap.size → lab' b = lab b) : FnM w lab' G i p := by
  obtain ⟨c0, c1, c2, c3, c6, c7, ⟨u, c4, h4⟩, u', c5, h5⟩ := h
  exact ⟨c0, c1, c2, c3, c6, c7, ⟨u, c4, h4.mono (fun b hb e => by rw [hl b hb]; exact e)⟩, u', c5, h5.mono (fun b hb e => by rw [hl b hb]; exact e) (fun j b hb e => by rw [hl b hb]; exact e)⟩
def labN (lab : Lb) (i b b' s t : Nat) (lb : Nat → Nat) : Lb := fun x => if x = b then (0, i, 0) else if x = b' then (1, i, 0) else if s ≤ x ∧ x < t then (2, i, lb x) else lab x
structure FlT (w : World) (lab : Lb) (B G k : Nat) (fs : List Fn) : Prop where
  lab3 : lab G = (3, 0, 0)
  rng : ∀ b, (lab b).1 ≤ 3 → B ≤ b ∧ b < w.heap.size
  node : ∀ i p, (fs.take k)[i]? = some p → FnM w lab G i p
theorem FlT.put {wr w1 : World} {lab : Lb} {B G k b b' : Nat} {lb : Nat → Nat} {fs : List Fn} (h : FlT wr lab B G k fs) (hB : B ≤ wr.heap.size) (hG : G < wr.heap.size) (hk : k < fs.length) (hb1 : Below wr.heap.size wr w1)
    (hb0 : wr.heap.size ≤ b) (hbb : b < b') (hbs : b' < w1.heap.size) (ho4 : OwnOps w1 b (fs[k]).Ex.length (fs[k]).Ex) (ho5 : OssM w1 b' lb (fs[k]).Exs) (hall : ∀ o, o < 8 → ∃ v, w1.cell? ⟨G, k * 8 + o, none⟩ = some v) :
    FlT (putFn w1 G (k * 8) fs[k] b b') (labN lab k b b' wr.heap.size w1.heap.size lb) B G (k + 1) fs := by
  have hsz : (putFn w1 G (k * 8) fs[k] b b').heap.size = w1.heap.size := by simp [putFn]
  have hle := hb1.size
  have hGl : labN lab k b b' wr.heap.size w1.heap.size lb G = (3, 0, 0) := by unfold labN; rw [if_neg (by omega), if_neg (by omega), if_neg (by omega)]; exact h.lab3
  have hBt : ButM (fun x => x = G) w1 (putFn w1 G (k * 8) fs[k] b b') := by
    unfold putFn
    exact (((((((ButM.set (S := fun x => x = G) (ButM.refl _ _) rfl _).set rfl _).set rfl _).set rfl _).set rfl _).set rfl _).set rfl _).set rfl _
  refine ⟨hGl, fun x hx => ?_, fun i p hp => ?_⟩
  · rw [hsz]
    unfold labN at hx
    by_cases e1 : x = b
    · omega
    rw [if_neg e1] at hx
    by_cases e2 : x = b'
    · omega
    rw [if_neg e2] at hx
    by_cases e3 : wr.heap.size ≤ x ∧ x < w1.heap.size
    · omega
    rw [if_neg e3] at hx
    have := h.rng x hx
    omega
  · rw [take_snocN fs k hk] at hp
    have hl : (fs.take k).length = k := by simp; omega
    by_cases hi : i < k
    · rw [List.getElem?_append_left (by omega)] at hp
      have h1 := (h.node i p hp).relab (lab' := labN lab k b b' wr.heap.size w1.heap.size lb) (fun x hx => by unfold labN; rw [if_neg (by omega), if_neg (by omega), if_neg (by omega)])
      have h2 := h1.of hG hb1
      unfold putFn
      exact (((((((h2.far hGl (by omega) _).far hGl (by omega) _).far hGl (by omega) _).far hGl (by omega) _).far hGl (by omega) _).far hGl (by omega) _).far hGl (by omega) _).far hGl (by omega) _
    · obtain rfl : i = k := by
        have := (List.getElem?_eq_some_iff.1 hp).1
        simp at this; omega
      rw [List.getElem?_append_right (by omega)] at hp
      simp [hl] at hp
      subst hp
      obtain ⟨v0, c0⟩ := hall 0 (by omega)
      obtain ⟨v1, c1⟩ := hall 1 (by omega)
      obtain ⟨v2, c2⟩ := hall 2 (by omega)
      obtain ⟨v3, c3⟩ := hall 3 (by omega)
      obtain ⟨v4, c4⟩ := hall 4 (by omega)
      obtain ⟨v5, c5⟩ := hall 5 (by omega)
      obtain ⟨v6, c6⟩ := hall 6 (by omega)
      obtain ⟨v7, c7⟩ := hall 7 (by omega)
      rw [Nat.add_zero] at c0
      refine ⟨?_, ?_, ?_, ?_, ?_, ?_, ⟨.slice (some ⟨b, 0, none⟩) (fs[i]).Ex.length (fs[i]).Ex.length, ?_, ?_⟩, .slice (some ⟨b', 0, none⟩) (fs[i]).Exs.length (fs[i]).Exs.length, ?_, ?_⟩
      · unfold putFn; rw [setCell_otherN (by omega), setCell_otherN (by omega), setCell_otherN (by omega), setCell_otherN (by omega), setCell_otherN (by omega), setCell_otherN (by omega), setCell_otherN (by omega)]; exact World.cell?_setCell_same _ _ _ c0
      · unfold putFn; rw [setCell_otherN (by omega), setCell_otherN (by omega), setCell_otherN (by omega), setCell_otherN (by omega), setCell_otherN (by omega), setCell_otherN (by omega)]; exact World.cell?_setCell_same _ _ _ (by rw [setCell_otherN (by omega)]; exact c1)
      · unfold putFn; rw [setCell_otherN (by omega), setCell_otherN (by omega), setCell_otherN (by omega), setCell_otherN (by omega), setCell_otherN (by omega)]; exact World.cell?_setCell_same _ _ _ (by rw [setCell_otherN (by omega), setCell_otherN (by omega)]; exact c2)
      · unfold putFn; rw [setCell_otherN (by omega), setCell_otherN (by omega), setCell_otherN (by omega), setCell_otherN (by omega)]; exact World.cell?_setCell_same _ _ _ (by rw [setCell_otherN (by omega), setCell_otherN (by omega), setCell_otherN (by omega)]; exact c3)
      · unfold putFn; rw [setCell_otherN (by omega)]; exact World.cell?_setCell_same _ _ _ (by rw [setCell_otherN (by omega), setCell_otherN (by omega), setCell_otherN (by omega), setCell_otherN (by omega), setCell_otherN (by omega), setCell_otherN (by omega)]; exact c6)
      · unfold putFn; exact World.cell?_setCell_same _ _ _ (by rw [setCell_otherN (by omega), setCell_otherN (by omega), setCell_otherN (by omega), setCell_otherN (by omega), setCell_otherN (by omega), setCell_otherN (by omega), setCell_otherN (by omega)]; exact c7)
      · unfold putFn; rw [setCell_otherN (by omega), setCell_otherN (by omega), setCell_otherN (by omega)]; exact World.cell?_setCell_same _ _ _ (by rw [setCell_otherN (by omega), setCell_otherN (by omega), setCell_otherN (by omega), setCell_otherN (by omega)]; exact c4)
      · exact Or.inr ⟨b, _, rfl, Nat.le_refl _, by simp [labN], ho4.butM hBt (by omega)⟩
      · unfold putFn; rw [setCell_otherN (by omega), setCell_otherN (by omega)]; exact World.cell?_setCell_same _ _ _ (by rw [setCell_otherN (by omega), setCell_otherN (by omega), setCell_otherN (by omega), setCell_otherN (by omega), setCell_otherN (by omega)]; exact c5)
      · refine Or.inr ⟨b', _, rfl, by show labN lab i b b' wr.heap.size w1.heap.size lb b' = (1, i, 0); unfold labN; rw [if_neg (by omega), if_pos rfl], by rw [hsz]; exact hbs, fun j ys hy => ?_⟩
        obtain ⟨u, hu, hr⟩ := ho5 j ys hy
        refine ⟨u, (hBt.cell b' j hbs (by omega)).trans hu, ?_⟩
        have h1 := hr.mono (T := fun x => b' < x ∧ labN lab i b b' wr.heap.size w1.heap.size lb x = (2, i, j)) (fun x hx hs => ⟨hs.1, by have := hs.1; unfold labN; rw [if_neg (by omega), if_neg (by omega), if_pos (by omega), hs.2]⟩)
        exact (h1.but hBt (fun x hx e => by have := hx.1; omega)).mono (fun x _ hs => hs.2)
theorem FlT.full {w : World} {lab : Lb} {B G : Nat} {fs : List Fn} (h : FlT w lab B G fs.length fs) (ho : OwnFns w G fs.length fs) : FlM w lab G fs :=
  ⟨ho.size, h.lab3, ho.frz, ho.all, fun i p hp => h.node i p (by rw [List.take_length]; exact hp)⟩
end Go.Proofs.YtnchcndcinpalaaGreatDoor
