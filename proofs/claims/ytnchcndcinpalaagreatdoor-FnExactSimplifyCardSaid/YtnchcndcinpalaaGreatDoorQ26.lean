import Derived.Test.YtnchcndcinpalaaGreatDoorQ25
import Derived.Test.YtnchcndcinpalaaGreatDoorQ5
import Derived.Test.YtnchcndcinpalaaGreatDoorQ0
import Derived.Test.YtnchcndcinpalaaGreatDoorQ2
import Derived.Deep.RegionHeld3
/-
  COPIES OF FLAT PLANS that share nothing: all nodes.
-/
namespace Go.Proofs.YtnchcndcinpalaaGreatDoor
open Go Go.RowKit

theorem FnM.relab {w : World} {lab lab' : Lb} {G i : Nat} {p : Fn} (h : FnM w lab G i p) (hl : ∀ b, b < w.heap.size → lab' b = lab b) : FnM w lab' G i p := by
  obtain ⟨c0, c1, c2, c3, c6, c7, ⟨u, c4, h4⟩, u', c5, h5⟩ := h
  exact ⟨c0, c1, c2, c3, c6, c7, ⟨u, c4, h4.mono (fun b hb e => by rw [hl b hb]; exact e)⟩, u', c5, h5.mono (fun b hb e => by rw [hl b hb]; exact e) (fun j b hb e => by rw [hl b hb]; exact e)⟩
/-- the labels after node i has been copied between the sizes s and t -/
def labN (lab : Lb) (i b b' s t : Nat) (lb : Nat → Nat) : Lb := fun x => if x = b then (0, i, 0) else if x = b' then (1, i, 0) else if s ≤ x ∧ x < t then (2, i, lb x) else lab x
/-- nodes as far as place k, and where the labels lie -/
structure FlT (w : World) (lab : Lb) (B G k : Nat) (fs : List Fn) : Prop where
  lab3 : lab G = (3, 0, 0)
  rng : ∀ b, (lab b).1 ≤ 3 → B ≤ b ∧ b < w.heap.size
  node : ∀ i p, (fs.take k)[i]? = some p → FnM w lab G i p
theorem FlT.put {wr w1 : World} {lab : Lb} {B G k b b' : Nat} {lb : Nat → Nat} {fs : List Fn} (h : FlT wr lab B G k fs) (hB : B ≤ wr.heap.size) (hG : G < wr.heap.size) (hk : k < fs.length) (hb1 : Below wr.heap.size wr w1)
    (hb0 : wr.heap.size ≤ b) (hbb : b < b') (hbs : b' < w1.heap.size) (ho4 : OwnOps w1 b (fs[k]).Ex.length (fs[k]).Ex) (ho5 : OssM w1 b' lb (fs[k]).Exs) (hall : ∀ o, o < 8 → ∃ v, w1.cell? ⟨G, k * 8 + o, none⟩ = some v) :
    FlT (putFn w1 G (k * 8) fs[k] b b') (labN lab k b b' wr.heap.size w1.heap.size lb) B G (k + 1) fs := by
  have hsz : (putFn w1 G (k * 8) fs[k] b b').heap.size = w1.heap.size := by simp [putFn]
  have hle := hb1.size
  have hGl : labN lab k b b' wr.heap.size w1.heap.size lb G = (3, 0, 0) := by unfold labN; rw [if_neg (by omega), if_neg (by omega), if_neg (by omega)]; exact h.lab3
  have hBt : ButM (fun x => x = G) w1 (putFn w1 G (k * 8) fs[k] b b') := by
    unfold putFn
    exact (((((((ButM.set (S := fun x => x = G) (ButM.refl _ _) rfl _).set rfl _).set rfl _).set rfl _).set rfl _).set rfl _).set rfl _).set rfl _
  refine ⟨hGl, fun x hx => ?_, fun i p hp => ?_⟩
  · rw [hsz]
    unfold labN at hx
    by_cases e1 : x = b
    · omega
    rw [if_neg e1] at hx
    by_cases e2 : x = b'
    · omega
    rw [if_neg e2] at hx
    by_cases e3 : wr.heap.size ≤ x ∧ x < w1.heap.size
    · omega
    rw [if_neg e3] at hx
    have := h.rng x hx
    omega
  · rw [take_snocN fs k hk] at hp
    have hl : (fs.take k).length = k := by simp; omega
    by_cases hi : i < k
    · rw [List.getElem?_append_left (by omega)] at hp
      have h1 := (h.node i p hp).relab (lab' := labN lab k b b' wr.heap.size w1.heap.size lb) (fun x hx => by unfold labN; rw [if_neg (by omega), if_neg (by omega), if_neg (by omega)])
      have h2 := h1.of hG hb1
      unfold putFn
      exact (((((((h2.far hGl (by omega) _).far hGl (by omega) _).far hGl (by omega) _).far hGl (by omega) _).far hGl (by omega) _).far hGl (by omega) _).far hGl (by omega) _).far hGl (by omega) _
    · obtain rfl : i = k := by
        have := (List.getElem?_eq_some_iff.1 hp).1
        simp at this; omega
      rw [List.getElem?_append_right (by omega)] at hp
      simp [hl] at hp
      subst hp
      obtain ⟨v0, c0⟩ := hall 0 (by omega)
      obtain ⟨v1, c1⟩ := hall 1 (by omega)
      obtain ⟨v2, c2⟩ := hall 2 (by omega)
      obtain ⟨v3, c3⟩ := hall 3 (by omega)
      obtain ⟨v4, c4⟩ := hall 4 (by omega)
      obtain ⟨v5, c5⟩ := hall 5 (by omega)
      obtain ⟨v6, c6⟩ := hall 6 (by omega)
      obtain ⟨v7, c7⟩ := hall 7 (by omega)
      rw [Nat.add_zero] at c0
      refine ⟨?_, ?_, ?_, ?_, ?_, ?_, ⟨.slice (some ⟨b, 0, none⟩) (fs[i]).Ex.length (fs[i]).Ex.length, ?_, ?_⟩, .slice (some ⟨b', 0, none⟩) (fs[i]).Exs.length (fs[i]).Exs.length, ?_, ?_⟩
      · unfold putFn; rw [setCell_otherN (by omega), setCell_otherN (by omega), setCell_otherN (by omega), setCell_otherN (by omega), setCell_otherN (by omega), setCell_otherN (by omega), setCell_otherN (by omega)]; exact World.cell?_setCell_same _ _ _ c0
      · unfold putFn; rw [setCell_otherN (by omega), setCell_otherN (by omega), setCell_otherN (by omega), setCell_otherN (by omega), setCell_otherN (by omega), setCell_otherN (by omega)]; exact World.cell?_setCell_same _ _ _ (by rw [setCell_otherN (by omega)]; exact c1)
      · unfold putFn; rw [setCell_otherN (by omega), setCell_otherN (by omega), setCell_otherN (by omega), setCell_otherN (by omega), setCell_otherN (by omega)]; exact World.cell?_setCell_same _ _ _ (by rw [setCell_otherN (by omega), setCell_otherN (by omega)]; exact c2)
      · unfold putFn; rw [setCell_otherN (by omega), setCell_otherN (by omega), setCell_otherN (by omega), setCell_otherN (by omega)]; exact World.cell?_setCell_same _ _ _ (by rw [setCell_otherN (by omega), setCell_otherN (by omega), setCell_otherN (by omega)]; exact c3)
      · unfold putFn; rw [setCell_otherN (by omega)]; exact World.cell?_setCell_same _ _ _ (by rw [setCell_otherN (by omega), setCell_otherN (by omega), setCell_otherN (by omega), setCell_otherN (by omega), setCell_otherN (by omega), setCell_otherN (by omega)]; exact c6)
      · unfold putFn; exact World.cell?_setCell_same _ _ _ (by rw [setCell_otherN (by omega), setCell_otherN (by omega), setCell_otherN (by omega), setCell_otherN (by omega), setCell_otherN (by omega), setCell_otherN (by omega), setCell_otherN (by omega)]; exact c7)
      · unfold putFn; rw [setCell_otherN (by omega), setCell_otherN (by omega), setCell_otherN (by omega)]; exact World.cell?_setCell_same _ _ _ (by rw [setCell_otherN (by omega), setCell_otherN (by omega), setCell_otherN (by omega), setCell_otherN (by omega)]; exact c4)
      · exact Or.inr ⟨b, _, rfl, Nat.le_refl _, by simp [labN], ho4.butM hBt (by omega)⟩
      · unfold putFn; rw [setCell_otherN (by omega), setCell_otherN (by omega)]; exact World.cell?_setCell_same _ _ _ (by rw [setCell_otherN (by omega), setCell_otherN (by omega), setCell_otherN (by omega), setCell_otherN (by omega), setCell_otherN (by omega)]; exact c5)
      · refine Or.inr ⟨b', _, rfl, by show labN lab i b b' wr.heap.size w1.heap.size lb b' = (1, i, 0); unfold labN; rw [if_neg (by omega), if_pos rfl], by rw [hsz]; exact hbs, fun j ys hy => ?_⟩
        obtain ⟨u, hu, hr⟩ := ho5 j ys hy
        refine ⟨u, (hBt.cell b' j hbs (by omega)).trans hu, ?_⟩
        have h1 := hr.mono (T := fun x => b' < x ∧ labN lab i b b' wr.heap.size w1.heap.size lb x = (2, i, j)) (fun x hx hs => ⟨hs.1, by have := hs.1; unfold labN; rw [if_neg (by omega), if_neg (by omega), if_pos (by omega), hs.2]⟩)
        exact (h1.but hBt (fun x hx e => by have := hx.1; omega)).mono (fun x _ hs => hs.2)

set_option maxHeartbeats 4000000 in
theorem toFNodeS_M (v : Value) (ps : List Fn) (w : World) (hv : IsFns w v ps) (hn : ps.length ≤ 1048576) (hk : ∀ p ∈ ps, p.Ex.length ≤ 1048576 ∧ p.Exs.length ≤ 1048576 ∧ bulkO p.Exs ≤ 1048576) :
    Calls Tryz.prog 29 #[v] w fun e w' => ∃ (g : Nat) (lab : Lb), e = .returned (.slice (some ⟨g, 0, none⟩) ps.length ps.length) ∧ w.heap.size ≤ g ∧ OwnFns w' g ps.length ps ∧ FlT w' lab w.heap.size g ps.length ps ∧ Below w.heap.size w w' := by
  rcases hv with ⟨rfl, a, cap, rfl⟩ | ⟨g, off, cap, rfl, hg, hr⟩
  · have hmk := make_fns0
    clear hn hk
    go_enter Tryz.func29, Tryz.ntmps29
    go_wp2
    go_loopw [4] (fun i wr => i = .int .i64 0 ∧ OwnFns wr w.heap.size 0 [] ∧ Below w.heap.size w wr) (fun _ _ => 0)
    case atStart => exact ⟨rfl, OwnFns.made w 0 #[] _ rfl, bA (Below.refl _ _) _⟩
    case round =>
      obtain ⟨rfl, ho, hb⟩ := hrel
      have hsz := ho.size
      go_wp2
      go_ret
      exact ⟨_, fun x => if x = w.heap.size then (3, 0, 0) else (4, 0, 0), rfl, Nat.le_refl _, ho, ⟨by simp, fun b hb' => by by_cases e : b = w.heap.size <;> simp [e] at hb' ⊢; exact hsz, fun i p hp => by simp at hp⟩, hb⟩
  · have hmk := make_fns ps.length hn
    have hO : Hid (OwnFns (w.alloc (.cells (madeCells #[.int .i64 0, .int .i64 0, .int .i64 0, .int .i64 0, .slice none 0 0, .slice none 0 0, .int .i64 0, .int .i64 0] (ps.length * 8)) 67)) w.heap.size ps.length []) := OwnFns.made w _ _ _ (by simp [size_madeCells])
    have HK := hide hk
    have HR := hide hr
    clear hk hr
    go_enter Tryz.func29, Tryz.ntmps29
    go_wp2
    go_loopw [4] (fun i wr => ∃ k : Nat, k ≤ ps.length ∧ i = .int .i64 k ∧ OwnFns wr w.heap.size ps.length (ps.take k) ∧ (∃ lab : Lb, FlT wr lab w.heap.size w.heap.size k ps) ∧ Below w.heap.size w wr) (fun i _ => ps.length - (intOf i).toNat)
    case atStart => exact ⟨0, Nat.zero_le _, rfl, by simpa using hO.out, ⟨fun x => if x = w.heap.size then (3, 0, 0) else (4, 0, 0), by simp, fun b hb' => by by_cases e : b = w.heap.size <;> simp [e] at hb' ⊢, fun i p hp => by simp at hp⟩, bA (Below.refl _ _) _⟩
    case round =>
      clear hO hmk
      obtain ⟨k, hk, rfl, ho, ⟨lab, hl⟩, hb⟩ := hrel
      by_cases hlt : k < ps.length
      · obtain ⟨a0, a1, a2, a3, a6, a7, ⟨u, a4, hu⟩, u', a5, hu'⟩ := (unhide HR) k ps[k] (List.getElem?_eq_getElem hlt)
        have c0 := (hb.cell (p := ⟨g, off + k * 8, none⟩) hg).trans a0
        have c1 := (hb.cell (p := ⟨g, off + k * 8 + 1, none⟩) hg).trans a1
        have c2 := (hb.cell (p := ⟨g, off + k * 8 + 2, none⟩) hg).trans a2
        have c3 := (hb.cell (p := ⟨g, off + k * 8 + 3, none⟩) hg).trans a3
        have c4 := (hb.cell (p := ⟨g, off + k * 8 + 4, none⟩) hg).trans a4
        have c5 := (hb.cell (p := ⟨g, off + k * 8 + 5, none⟩) hg).trans a5
        have c6 := (hb.cell (p := ⟨g, off + k * 8 + 6, none⟩) hg).trans a6
        have c7 := (hb.cell (p := ⟨g, off + k * 8 + 7, none⟩) hg).trans a7
        obtain ⟨hk1, hk2, hk3⟩ := unhide HK _ (List.getElem_mem hlt)
        have hput := fun (w1 : World) (h : OwnFns w1 w.heap.size ps.length (ps.take k)) b b' h1 h2 h3 h4 h5 h6 => h.put hlt hlt b b' h1 h2 h3 h4 h5 h6
        have hputM := fun (w1 : World) b b' lb h1 h2 h3 h4 h5 h6 h7 => hl.put (w1 := w1) (b := b) (b' := b') (lb := lb) hb.size ho.size hlt h1 h2 h3 h4 h5 h6 h7
        have hTN := fun W (hbW : Below w.heap.size w W) => toFNode_M (ps[k]).K (ps[k]).T (ps[k]).M (ps[k]).W (ps[k]).L (ps[k]).R u u' (ps[k]).Ex (ps[k]).Exs W (hu.of hbW) (hu'.of hbW) hk1 hk2 hk3
        cases e : ps[k] with | mk K T M Wd Ex Exs L R =>
        rw [e] at c0 c1 c2 c3 c6 c7 hput hputM hTN hu hu'
        simp only at c0 c1 c2 c3 c6 c7 hput hputM hTN hu hu'
        obtain ⟨ua, ucap, rfl⟩ := isOps_slice hu
        obtain ⟨ua', ucap', rfl⟩ := isOpss_slice hu'
        have HTN := hide hTN; have HPut := hide hput; have HPutM := hide hputM
        have HO := hide ho
        have q1 : g < wr.heap.size := Nat.lt_of_lt_of_le hg hb.size
        have j1 : (k : Int) < (ps.length : Int) := by omega
        clear hTN hput hputM hu hu' e ho hl a0 a1 a2 a3 a4 a5 a6 a7 hk1 hk2 hk3
        go_wp2_with fail
        refine (unhide HTN _ hb).mono ?_; rintro e w1 ⟨b, b', lb, rfl, hb0, hbb, hbs, hbo, hbo', hbm, hb1⟩
        have d1 := bT hb hb1
        have ho1 := (unhide HO).of hb1
        have hN := unhide HPut w1 ho1 b b' (Nat.lt_of_lt_of_le (unhide HO).size hb0) (by omega) hbo.held (by have := (unhide HO).size; omega) hbs hbo'
        have hN2 := unhide HPutM w1 b b' lb hb1 hb0 hbb hbs hbo hbm (fun o ho => ho1.all (k * 8 + o) (by omega))
        obtain ⟨u0, hu0⟩ := ho1.all (k * 8) (by omega)
        obtain ⟨u1, hu1⟩ := ho1.all (k * 8 + 1) (by omega)
        obtain ⟨u2, hu2⟩ := ho1.all (k * 8 + 2) (by omega)
        obtain ⟨u3, hu3⟩ := ho1.all (k * 8 + 3) (by omega)
        obtain ⟨u4, hu4⟩ := ho1.all (k * 8 + 4) (by omega)
        obtain ⟨u5, hu5⟩ := ho1.all (k * 8 + 5) (by omega)
        obtain ⟨u6, hu6⟩ := ho1.all (k * 8 + 6) (by omega)
        obtain ⟨u7, hu7⟩ := ho1.all (k * 8 + 7) (by omega)
        have hf := ho1.frz
        have HN := hide hN; have HN2 := hide hN2
        have HB := hide (putFn_below (g := w.heap.size) (o := k * 8) d1 (Nat.le_refl _) ⟨K, T, M, Wd, Ex, Exs, L, R⟩ b b')
        clear hN hN2 ho1 hbo hbo' hbm hb1 HO HPut HPutM HTN c0 c1 c2 c3 c4 c5 c6 c7 hb0 hbb hbs
        go_wp2
        go_roundw
        case rel => exact ⟨k + 1, by omega, by go_num, unhide HN, ⟨_, unhide HN2⟩, unhide HB⟩
        case measure => simp [intOf]; omega
      · obtain rfl : k = ps.length := by omega
        rw [List.take_length] at ho
        go_wp2
        go_ret
        exact ⟨_, lab, rfl, Nat.le_refl _, ho, hl, hb⟩

theorem FlT.full {w : World} {lab : Lb} {B G : Nat} {fs : List Fn} (h : FlT w lab B G fs.length fs) (ho : OwnFns w G fs.length fs) : FlM w lab G fs :=
  ⟨ho.size, h.lab3, ho.frz, ho.all, fun i p hp => h.node i p (by rw [List.take_length]; exact hp)⟩

set_option maxHeartbeats 1000000 in
theorem toFlat_M (v : Value) (Rt : Int) (ps : List Fn) (w : World) (hv : IsFns w v ps) (hn : ps.length ≤ 1048576) (hk : ∀ p ∈ ps, p.Ex.length ≤ 1048576 ∧ p.Exs.length ≤ 1048576 ∧ bulkO p.Exs ≤ 1048576) :
    Calls Tryz.prog 8 #[.agg #[v, .int .i64 Rt]] w fun e w' => ∃ (g : Nat) (lab : Lb), e = .returned (.agg #[.slice (some ⟨g, 0, none⟩) ps.length ps.length, .int .i64 Rt]) ∧ w.heap.size ≤ g ∧ g < w'.heap.size ∧ FnsAt w' g 0 ps ∧ FlM w' lab g ps ∧ (∀ b, (lab b).1 ≤ 3 → w.heap.size + 3 ≤ b ∧ b < w'.heap.size) ∧ Below w.heap.size w w' := by
  have TI := fun W (hb : Below w.heap.size w W) => toFNodeS_M v ps W (hv.of hb) hn hk
  have HT := hide TI
  obtain ⟨a, cap, rfl⟩ := isFns_slice hv
  clear TI hv
  go_enter Tryz.func8, Tryz.ntmps8
  go_wp2_with fail
  refine (unhide HT _ (by (repeat (first | exact Below.refl _ _ | refine bA ?_ _)))).mono ?_; rintro e w1 ⟨g, lab, rfl, hg, ho, hl, hb1⟩
  obtain ⟨hc, hf⟩ := bcell hb1
  have hs1 : w.heap.size + 3 ≤ w1.heap.size := by have := hb1.size; simpa using this
  have hg1 : w.heap.size + 3 ≤ g := by simpa using hg
  have hr : ∀ b, (lab b).1 ≤ 3 → w.heap.size + 3 ≤ b ∧ b < w1.heap.size := fun b hb => by have := hl.rng b hb; simpa using this
  have HO := hide ho; have HB := hide (bT (by (repeat (first | exact Below.refl _ _ | refine bA ?_ _))) hb1 : Below w.heap.size w w1)
  have HF := hide (hl.full ho); have HR := hide hr
  clear ho hb1 hg hl hr
  go_wp2
  refine bodyPost_ret (v := .agg #[.slice (some ⟨g, 0, none⟩) ps.length ps.length, .int .i64 Rt]) (by simp [results, Tryz.results8, go_sem, hc]) rfl ⟨g, lab, rfl, by omega, ?_, ?_, ?_, ?_, ?_⟩
  · have := (unhide HO).size
    simpa using this
  · (repeat (refine FnsAt.far ?_ (by omega) _))
    exact (unhide HO).held
  · (repeat (refine FlM.but ?_ (ButM.set (S := fun x => x < w.heap.size + 3) (ButM.refl _ _) (by omega) _) (fun b hb => by have := unhide HR b hb; omega)))
    exact unhide HF
  · intro b hb
    have := unhide HR b hb
    simpa using this
  · (repeat (refine Below.setCell ?_ (by dsimp only; omega) _))
    exact unhide HB
end Go.Proofs.YtnchcndcinpalaaGreatDoor
/-
  COPIES OF EXPRESSIONS, as the program makes them.
-/
namespace Go.Proofs.YtnchcndcinpalaaGreatDoor
open Go Go.RowKit

set_option maxRecDepth 100000 in
set_option maxHeartbeats 2000000 in
theorem CloneOps_calls (xs : List O2) (g off cap : Nat) (w : World) (hg : g < w.heap.size) (hr : OpsAt w g off xs) (hn : xs.length ≤ 1048576) :
    Calls Tryz.prog 32 #[.slice (some ⟨g, off, none⟩) xs.length cap] w fun e w' => ∃ u, e = .returned u ∧ OpsM w' u xs (fun b => w.heap.size ≤ b) ∧ Below w.heap.size w w' := by
  obtain ⟨i, hi, hz⟩ := Option.map_eq_some_iff.1 (show (Tryz.prog.info? 72).map (fun i => (i.zero, i.size, i.bytes)) = some (some (.agg #[.int .i64 0, .int .i64 0]), 2, 16) by kernel_rfl)
  simp only [Prod.mk.injEq] at hz
  obtain ⟨hz0, hz1, hz2⟩ := hz
  have hnil := fun w => Lib.run_eql_slice_nil (P := Tryz.prog) w 64 72 (some ⟨g, off, none⟩) xs.length cap 0 0 Tryz.underlying64
  have HNw := hide (news_ops (hr.of hg (bA (Below.refl _ _) (.cells #[] 72))))
  have hO : Hid ((w.alloc (.cells #[] 72)).ownsRow w.heap.size 72 2 (.slice (some ⟨w.heap.size, 0, none⟩) 0 0) 0 []) := ⟨rfl, Or.inr ⟨w.heap.size, 0, #[], rfl, Nat.le_refl _, (MapKept.heap_alloc w _).1, Nat.le_refl _, Nat.zero_le _, rfl, rfl⟩⟩
  clear hr
  go_enter Tryz.func32, Tryz.ntmps32
  go_wp2_with (at_builtin; go_must (refine wpList_append_own _ rfl (.tmp 5) (.tmp 6) 64 rfl w.heap.size 72 i _ 2 16 Tryz.underlying64 hi hz0 hz1 hz2 rfl (by decide) (.slice (some ⟨w.heap.size, 0, none⟩) 0 0) 0 [] rfl (unhide hO) ⟨g, off, none⟩ xs.length cap (vOps xs) rfl (by rw [vOps_length]; omega) (unhide HNw) (one_vOps _) (by unfold maxLen; omega) (by omega) (by simp) ?_; intro v' w' hown hgrow hnn))
  have dB : Hid (Below w.heap.size w w') := (bA (Below.refl w.heap.size w) (.cells #[] 72)).grown hgrow (by simp) (fun k hk => by
    have : w.heap.size = k := by simpa [Value.ownBlock] using hk
    omega)
  have HM : Hid (OpsM w' v' xs (fun b => w.heap.size ≤ b)) := by
    show OpsM _ _ _ _
    rw [Nat.zero_add, List.nil_append] at hown
    rcases hown.2 with ⟨h1, h2⟩ | ⟨G, c, cur, h1, _⟩
    · have hx : xs = [] := List.eq_nil_of_length_eq_zero (by omega)
      subst hx
      exact Or.inl ⟨rfl, _, _, h1⟩
    · subst h1
      exact opsM_of_owns hown
  clear hown hgrow hnn
  go_wp2
  go_ret
  exact ⟨_, rfl, unhide HM, unhide dB⟩

theorem OssM.putM {wr w1 : World} {G k : Nat} {lb : Nat → Nat} {oss : List (List O2)} {u : Value} (h : OssM wr G lb (oss.take k)) (hG : G < wr.heap.size) (hk : k < oss.length) (hb1 : Below wr.heap.size wr w1) (hu : OpsM w1 u oss[k] (fun b => wr.heap.size ≤ b)) (hall : ∃ v, w1.cell? ⟨G, k, none⟩ = some v) :
    OssM (w1.setCell ⟨G, k, none⟩ u) G (fun b => if wr.heap.size ≤ b then k else lb b) (oss.take (k + 1)) := fun i xs hx => by
  have hBt : ButM (fun b => b = G) w1 (w1.setCell ⟨G, k, none⟩ u) := ButM.set (S := fun b => b = G) (ButM.refl _ _) rfl _
  rw [take_snocN oss k hk] at hx
  have hl : (oss.take k).length = k := by simp; omega
  by_cases hi : i < k
  · rw [List.getElem?_append_left (by omega)] at hx
    obtain ⟨u', hu', hr⟩ := h i xs hx
    refine ⟨u', by rw [setCell_otherN (by omega)]; exact (hb1.cell (p := ⟨G, i, none⟩) hG).trans hu', ?_⟩
    have h1 := hr.mono (T := fun b => G < b ∧ (if wr.heap.size ≤ b then k else lb b) = i) (fun b hb hs => ⟨hs.1, by rw [if_neg (by omega)]; exact hs.2⟩)
    exact (h1.of hb1).but hBt (fun b hb e => by have := hb.1; omega)
  · obtain rfl : i = k := by
      have := (List.getElem?_eq_some_iff.1 hx).1
      simp at this; omega
    rw [List.getElem?_append_right (by omega)] at hx
    simp [hl] at hx
    subst hx
    obtain ⟨v, hv⟩ := hall
    exact ⟨_, World.cell?_setCell_same _ _ _ hv, (hu.mono (T := fun b => G < b ∧ (if wr.heap.size ≤ b then i else lb b) = i) (fun b _ e => ⟨by omega, by rw [if_pos e]⟩)).but hBt (fun b hb e => by have := hb.1; omega)⟩
/-- a made slice of n slices' heads, which may be written -/
structure FrO (w : World) (G n : Nat) : Prop where
  size : G < w.heap.size
  frz : ∀ o, w.frozen? ⟨G, o, none⟩ = false
  all : ∀ o, o < n → ∃ v, w.cell? ⟨G, o, none⟩ = some v
  blk : ∃ cur, w.heap[G]? = some (.cells cur 64 (0, 0)) ∧ cur.size = n
theorem FrO.of {w w1 : World} {G n : Nat} (h : FrO w G n) (hb : Below w.heap.size w w1) : FrO w1 G n :=
  ⟨Nat.lt_of_lt_of_le h.size hb.size, fun o => (hb.frozen (p := ⟨G, o, none⟩) h.size).trans (h.frz o), fun o ho => by
    obtain ⟨v, hv⟩ := h.all o ho
    exact ⟨v, (hb.cell (p := ⟨G, o, none⟩) h.size).trans hv⟩, by
    obtain ⟨cur, h1, h2⟩ := h.blk
    exact ⟨cur, by rw [hb.block G h.size]; exact h1, h2⟩⟩
theorem FrO.put {w : World} {G n k : Nat} (h : FrO w G n) (hk : k < n) (u : Value) : FrO (w.setCell ⟨G, k, none⟩ u) G n :=
  ⟨by have := h.size; simpa using this, fun o => by simp [go_sem, h.frz o], fun o ho => by
    obtain ⟨v, hv⟩ := h.all o ho
    by_cases e : o = k
    · subst e; exact ⟨u, World.cell?_setCell_same _ _ _ hv⟩
    · exact ⟨v, by rw [setCell_otherN (by omega)]; exact hv⟩, by
    obtain ⟨cur, h1, h2⟩ := h.blk
    exact ⟨_, Go.heap_setCell_same w G k cur _ u h1, by simpa using h2⟩⟩

set_option maxRecDepth 100000 in
set_option maxHeartbeats 4000000 in
theorem cloneExs_calls (oss : List (List O2)) (g cap : Nat) (w : World) (hg : g < w.heap.size) (hr : OpssAt w g oss) (hn : oss.length ≤ 1048576) (hk : ∀ xs ∈ oss, xs.length ≤ 1048576) :
    Calls Tryz.prog 33 #[.slice (some ⟨g, 0, none⟩) oss.length cap] w fun e w' => ∃ (G : Nat) (lb : Nat → Nat), e = .returned (.slice (some ⟨G, 0, none⟩) oss.length oss.length) ∧ w.heap.size ≤ G ∧ FrO w' G oss.length ∧ OssM w' G lb oss ∧ Below w.heap.size w w' := by
  have hmk := make_opss oss.length hn
  have hO : Hid (OwnOpss (w.alloc (.cells (madeCells #[.slice none 0 0] oss.length) 64)) w.heap.size oss.length []) := OwnOpss.made w _ _ _ (by simp [size_madeCells])
  have HR := hide hr; have HK := hide hk
  clear hr hk
  go_enter Tryz.func33, Tryz.ntmps33
  go_wp2
  go_loopw [11] (fun c wr => ∃ (k : Nat) (lb : Nat → Nat), k ≤ oss.length ∧ c = .int .i64 k ∧ FrO wr w.heap.size oss.length ∧ OssM wr w.heap.size lb (oss.take k) ∧ Below w.heap.size w wr) (fun c _ => oss.length - (intOf c).toNat)
  case atStart => exact ⟨0, fun _ => 0, Nat.zero_le _, rfl, ⟨(unhide hO).size, (unhide hO).frz, (unhide hO).all, _, (MapKept.heap_alloc w _).1, by simp [size_madeCells]⟩, by rw [List.take_zero]; exact OssM.nil _ _ _, bA (Below.refl _ _) _⟩
  case round =>
    clear hO hmk
    obtain ⟨k, lb, hk, rfl, hF, hL, hb⟩ := hrel
    by_cases hlt : k < oss.length
    · obtain ⟨bx, c0, _, hbx, hox⟩ := ((unhide HR).of hg hb) k oss[k] (List.getElem?_eq_getElem hlt)
      have hkl := unhide HK _ (List.getElem_mem hlt)
      have j1 : (k : Int) < (oss.length : Int) := by omega
      have q1 : g < wr.heap.size := Nat.lt_of_lt_of_le hg hb.size
      have HC := hide (CloneOps_calls oss[k] bx 0 (oss[k]).length wr hbx hox hkl)
      have HP := hide (fun w1 u hb1 hu => OssM.putM (w1 := w1) (u := u) hL hF.size hlt hb1 hu ((hF.of hb1).all k hlt))
      clear hox hkl hL
      generalize oss[k] = xs at *
      go_wp2_with fail
      refine (unhide HC).mono ?_; rintro e w1 ⟨u, rfl, hu, hb1⟩
      have HQ := hide (unhide HP w1 u hb1 hu)
      obtain ⟨ua, uc, rfl⟩ := hu.slice
      have d1 := bT hb hb1
      have hF1 := hF.of hb1
      obtain ⟨u0, hu0⟩ := hF1.all k hlt
      have hf1 := hF1.frz
      have hs1 := hF1.size
      have HF2 := hide (hF1.put hlt (.slice ua xs.length uc))
      have HB2 := hide (d1.setCell (p := ⟨w.heap.size, k, none⟩) (Nat.le_refl _) (.slice ua xs.length uc))
      clear HC HP hu hb1 c0
      go_wp2
      go_roundw
      case rel => exact ⟨k + 1, _, by omega, by go_num, unhide HF2, unhide HQ, unhide HB2⟩
      case measure => simp [intOf]; omega
    · obtain rfl : k = oss.length := by omega
      rw [List.take_length] at hL
      go_wp2
      go_ret
      exact ⟨_, lb, rfl, Nat.le_refl _, hF, hL, hb⟩

set_option maxRecDepth 100000 in
set_option maxHeartbeats 4000000 in
theorem columnExs_calls (n : Nat) (nz : Int) (hnz : nz = (n : Int)) (w : World) (hn : n ≤ 1048576) :
    Calls Tryz.prog 70 #[.int .i64 nz] w fun e w' => ∃ (G : Nat) (lb : Nat → Nat), e = .returned (.slice (some ⟨G, 0, none⟩) n n) ∧ w.heap.size ≤ G ∧ FrO w' G n ∧ OssM w' G lb (colExs n) ∧ Below w.heap.size w w' := by
  subst hnz
  have hmk := make_opss n hn
  have hO : Hid (OwnOpss (w.alloc (.cells (madeCells #[.slice none 0 0] n) 64)) w.heap.size n []) := OwnOpss.made w _ _ _ (by simp [size_madeCells])
  have HCl := hide (colExs_length n)
  go_enter Tryz.func70, Tryz.ntmps70
  go_wp2
  go_loopw [9] (fun c wr => ∃ (k : Nat) (lb : Nat → Nat), k ≤ n ∧ c = .int .i64 k ∧ FrO wr w.heap.size n ∧ OssM wr w.heap.size lb ((colExs n).take k) ∧ Below w.heap.size w wr) (fun c _ => n - (intOf c).toNat)
  case atStart => exact ⟨0, fun _ => 0, Nat.zero_le _, rfl, ⟨(unhide hO).size, (unhide hO).frz, (unhide hO).all, _, (MapKept.heap_alloc w _).1, by simp [size_madeCells]⟩, by rw [List.take_zero]; exact OssM.nil _ _ _, bA (Below.refl _ _) _⟩
  case round =>
    clear hO hmk
    obtain ⟨k, lb, hk, rfl, hF, hL, hb⟩ := hrel
    by_cases hlt : k < n
    · have j1 : (k : Int) < (n : Int) := by omega
      have hx := bA (Below.refl wr.heap.size wr) (.cells #[.int .i64 3, .int .i64 (k : Int)] 72)
      have hck : (colExs n)[k]'(by rw [colExs_length]; exact hlt) = [((3 : Int), (k : Int))] := by simp [colExs]
      have HQ := hide (OssM.putM (k := k) (u := .slice (some ⟨wr.heap.size, 0, none⟩) 1 1) hL hF.size (by rw [colExs_length]; exact hlt) hx (by rw [hck]; exact opsM_one 72 (Nat.le_refl _)) ((hF.of hx).all k hlt))
      have hF1 := hF.of hx
      obtain ⟨u0, hu0⟩ := hF1.all k hlt
      have hf1 := hF1.frz
      have hs0 := hF.size
      have hs1 := hF1.size
      have HF2 := hide (hF1.put hlt (.slice (some ⟨wr.heap.size, 0, none⟩) 1 1))
      have HB2 := hide ((bT hb hx).setCell (p := ⟨w.heap.size, k, none⟩) (Nat.le_refl _) (.slice (some ⟨wr.heap.size, 0, none⟩) 1 1))
      have heq : ((wr.alloc (.cells #[.int .i64 3, .int .i64 (k : Int)] 72)).setCell ⟨w.heap.size, k, none⟩ (.slice (some ⟨wr.heap.size, 0, none⟩) 1 1)) = ((wr.setCell ⟨w.heap.size, k, none⟩ (.slice (some ⟨wr.heap.size, 0, none⟩) 1 1)).alloc (.cells #[.int .i64 3, .int .i64 (k : Int)] 72)) := by simp [go_sem, hs0]
      rw [heq] at HF2 HQ HB2
      clear hx hck hL heq
      go_wp2
      go_roundw
      case rel => exact ⟨k + 1, _, by omega, by go_num, unhide HF2, unhide HQ, unhide HB2⟩
      case measure => simp [intOf]; omega
    · obtain rfl : k = n := by omega
      rw [List.take_of_length_le (by rw [colExs_length]; exact Nat.le_refl _)] at hL
      go_wp2
      go_ret
      exact ⟨_, lb, rfl, Nat.le_refl _, hF, hL, hb⟩
end Go.Proofs.YtnchcndcinpalaaGreatDoor
/-
  THE PROGRAM's TABLE OF FIELDS: its small methods.
-/
namespace Go.Proofs.YtnchcndcinpalaaGreatDoor
open Go Go.RowKit

def nOk (u : Bool) (n lo hi : Int) : Bool := if u then decide (lo ≤ n ∧ n ≤ hi) else decide (n = 0)
theorem numberOk_calls (u : Bool) (n lo hi : Int) (w : World) : Calls Tryz.prog 105 #[.bool u, .int .i64 n, .int .i64 lo, .int .i64 hi] w fun e w' => e = .returned (.bool (nOk u n lo hi)) ∧ w' = w := by
  cases u
  · have HE : Hid (nOk false n lo hi = (n == 0)) := by
      show _ = _
      unfold nOk
      rw [Bool.eq_iff_iff]
      simp
    generalize nOk false n lo hi = E at *
    go_enter Tryz.func105, Tryz.ntmps105
    go_wp2
    go_ret
    exact ⟨congrArg (fun z => Ending.returned (.bool z)) HE.out.symm, rfl⟩
  · by_cases h1 : lo ≤ n
    · by_cases h2 : n ≤ hi
      · have HE : Hid (nOk true n lo hi = true) := by
          show _ = _
          unfold nOk
          simp [h1, h2]
        generalize nOk true n lo hi = E at *
        go_enter Tryz.func105, Tryz.ntmps105
        go_wp2
        go_ret
        exact ⟨congrArg (fun z => Ending.returned (.bool z)) HE.out.symm, rfl⟩
      · have HE : Hid (nOk true n lo hi = false) := by
          show _ = _
          unfold nOk
          simp [h1, h2]
        generalize nOk true n lo hi = E at *
        go_enter Tryz.func105, Tryz.ntmps105
        go_wp2
        go_ret
        exact ⟨congrArg (fun z => Ending.returned (.bool z)) HE.out.symm, rfl⟩
    · have HE : Hid (nOk true n lo hi = false) := by
        show _ = _
        unfold nOk
        simp [h1]
      generalize nOk true n lo hi = E at *
      go_enter Tryz.func105, Tryz.ntmps105
      go_wp2
      go_ret
      exact ⟨congrArg (fun z => Ending.returned (.bool z)) HE.out.symm, rfl⟩


theorem fUses_calls (b0 b1 b2 b3 b4 b5 b6 b7 : Bool) (m : Int) (w : World) : Calls Tryz.prog 123 #[.agg #[.bool b0, .bool b1, .bool b2, .bool b3, .bool b4, .bool b5, .bool b6, .bool b7], .int .i64 m] w fun e w' => e = .returned (.bool (b2 && (m != 1))) ∧ Below w.heap.size w w' := by
  cases b2
  · go_enter Tryz.func123, Tryz.ntmps123
    go_wp2
    go_ret
    exact ⟨rfl, bA (Below.refl _ _) _⟩
  · go_enter Tryz.func123, Tryz.ntmps123
    go_wp2
    go_ret
    exact ⟨rfl, bA (Below.refl _ _) _⟩
theorem fKids_none (b0 b1 b2 b3 b6 b7 : Bool) (L R : Int) (w : World) : Calls Tryz.prog 107 #[.agg #[.bool b0, .bool b1, .bool b2, .bool b3, .bool false, .bool false, .bool b6, .bool b7], .int .i64 L, .int .i64 R] w fun e w' => e = .returned (.slice none 0 0) ∧ Below w.heap.size w w' := by
  go_enter Tryz.func107, Tryz.ntmps107
  go_wp2
  go_ret
  exact ⟨rfl, (by (repeat (first | exact Below.refl _ _ | refine bA ?_ _ | refine Below.setCell ?_ (by simp <;> omega) _)))⟩
theorem fKids_one (b0 b1 b2 b3 b6 b7 : Bool) (L R : Int) (w : World) : Calls Tryz.prog 107 #[.agg #[.bool b0, .bool b1, .bool b2, .bool b3, .bool true, .bool false, .bool b6, .bool b7], .int .i64 L, .int .i64 R] w fun e w' => ∃ b, e = .returned (.slice (some ⟨b, 0, none⟩) 1 1) ∧ w.heap.size ≤ b ∧ b < w'.heap.size ∧ w'.cell? ⟨b, 0, none⟩ = some (.int .i64 L) ∧ Below w.heap.size w w' := by
  go_enter Tryz.func107, Tryz.ntmps107
  go_wp2
  go_ret
  refine ⟨_, rfl, ?_, ?_, by simp [go_sem], (by (repeat (first | exact Below.refl _ _ | refine bA ?_ _ | refine Below.setCell ?_ (by simp <;> omega) _)))⟩
  · first | omega | (simp <;> omega)
  · first | omega | (simp <;> omega)
theorem fKids_two (b0 b1 b2 b3 b4 b6 b7 : Bool) (L R : Int) (w : World) : Calls Tryz.prog 107 #[.agg #[.bool b0, .bool b1, .bool b2, .bool b3, .bool b4, .bool true, .bool b6, .bool b7], .int .i64 L, .int .i64 R] w fun e w' => ∃ b, e = .returned (.slice (some ⟨b, 0, none⟩) 2 2) ∧ w.heap.size ≤ b ∧ b < w'.heap.size ∧ w'.cell? ⟨b, 0, none⟩ = some (.int .i64 R) ∧ w'.cell? ⟨b, 1, none⟩ = some (.int .i64 L) ∧ Below w.heap.size w w' := by
  go_enter Tryz.func107, Tryz.ntmps107
  go_wp2
  go_ret
  refine ⟨_, rfl, ?_, ?_, by simp [go_sem], by simp [go_sem], (by (repeat (first | exact Below.refl _ _ | refine bA ?_ _ | refine Below.setCell ?_ (by simp <;> omega) _)))⟩
  · first | omega | (simp <;> omega)
  · first | omega | (simp <;> omega)
end Go.Proofs.YtnchcndcinpalaaGreatDoor
/-
  A REGION THAT DRAWS ITS ORDER, STEP BY STEP, where a guard strikes operations out (of no program): 'take' with the slot written out.
-/
namespace Go.Proofs.YtnchcndcinpalaaGreatDoor
open Go

section
variable {P : Program} {ops : Array Oper} {Q : Exit → Act → World → Prop} {md : Region.Mode} {S : World → Prop}
/-- an operation that its guard strikes out -/
theorem takeU (i d : Nat) {oi : Oper} {fuel : Nat} {listed : Array Bool} {a : Act} {w : World} (hi : ops[i]? = some oi) (hd : oi.dst = some d)
    (hs : Region.noSelect ops = true) (hf : Region.free md ops listed i = true) (hr : (Region.ready md ops listed).contains i = true)
    (hQ : ∀ c a w, Q (.panic c) (a.put oi.dst undef) w → Q (.panic c) a w) (hw : Region.wanted oi (yielded ops a.tmps) = false) (hS : S w)
    (h : wpAnyH P md ops Q S fuel (listed.setIfInBounds i true) (a.put (some d) undef) w) : wpAnyH P md ops Q S (fuel + 1) listed a w := by
  rw [← hd] at h
  exact wpAnyH_take hi hs hf hr hQ (Or.inr ⟨hw, rfl⟩) hS h
/-- one that yields v in every world that meets S -/
theorem takeW (i d : Nat) (v : Value) {oi : Oper} {fuel : Nat} {listed : Array Bool} {a : Act} {w : World} (hi : ops[i]? = some oi) (hd : oi.dst = some d)
    (hs : Region.noSelect ops = true) (hf : Region.free md ops listed i = true) (hr : (Region.ready md ops listed).contains i = true)
    (hQ : ∀ c a w, Q (.panic c) (a.put oi.dst v) w → Q (.panic c) a w) (hw : Region.wanted oi (yielded ops a.tmps) = true) (hy : ∀ w, S w → (execOp a.eval oi).run P w = .ok (.value v) w) (hS : S w)
    (h : wpAnyH P md ops Q S fuel (listed.setIfInBounds i true) (a.put (some d) v) w) : wpAnyH P md ops Q S (fuel + 1) listed a w := by
  rw [← hd] at h
  exact wpAnyH_take hi hs hf hr hQ (Or.inl ⟨hw, hy⟩) hS h
end
end Go.Proofs.YtnchcndcinpalaaGreatDoor
