import Derived.Test.YtnchcndcinpalaaGreatDoorQ12
import Derived.Test.YtnchcndcinpalaaGreatDoorQ23
import Derived.Test.YtnchcndcinpalaaGreatDoorQ15
import Derived.Test.YtnchcndcinpalaaGreatDoorQ14
import Derived.Test.YtnchcndcinpalaaGreatDoorQ0
namespace Go.Proofs.YtnchcndcinpalaaGreatDoor
open Go Go.RowKit
set_option maxRecDepth 100000 in
set_option maxHeartbeats 2000000 in
theorem CloneOps_calls (xs : List O2) (g off cap : Nat) (w : World) (hg : g < w.heap.size) (hr : OpsAt w g off xs) (hn : xs.length ≤ 1048576) :
    Calls Tryz.prog 32 #[.slice (some ⟨g, off, none⟩) xs.length cap] w fun e w' => ∃ u, e = .returned u ∧ OpsM w' u xs (fun b => w.heap.size ≤ b) ∧ Below w.heap.size w w' := by
  obtain ⟨i, hi, hz⟩ := Option.map_eq_some_iff.1 (show (Tryz.prog.info? 72).map (fun i => (i.zero, i.size, i.bytes)) = some (some (.agg #[.int .i64 0, .int .i64 0]), 2, 16) by kernel_rfl)
  simp only [Prod.mk.injEq] at hz
  obtain ⟨hz0, hz1, hz2⟩ := hz
  have hnil := fun w => Lib.run_eql_slice_nil (P := Tryz.prog) w 64 72 (some ⟨g, off, none⟩) xs.length cap 0 0 Tryz.underlying64
  have HNw := hide (news_ops (hr.of hg (bA (Below.refl _ _) (.cells #[] 72))))
  have hO : Hid ((w.alloc (.cells #[] 72)).ownsRow w.heap.size 72 2 (.slice (some ⟨w.heap.size, 0, none⟩) 0 0) 0 []) := ⟨rfl, Or.inr ⟨w.heap.size, 0, #[], rfl, Nat.le_refl _, (MapKept.heap_alloc w _).1, Nat.le_refl _, Nat.zero_le _, rfl, rfl⟩⟩
  clear hr
  go_enter Tryz.func32, Tryz.ntmps32
  go_wp2_with (at_builtin; go_must (refine wpList_append_own _ rfl (.tmp 5) (.tmp 6) 64 rfl w.heap.size 72 i _ 2 16 Tryz.underlying64 hi hz0 hz1 hz2 rfl (by decide) (.slice (some ⟨w.heap.size, 0, none⟩) 0 0) 0 [] rfl (unhide hO) ⟨g, off, none⟩ xs.length cap (vOps xs) rfl (by rw [vOps_length]; omega) (unhide HNw) (one_vOps _) (by unfold maxLen; omega) (by omega) (by simp) ?_; intro v' w' hown hgrow hnn))
  have dB : Hid (Below w.heap.size w w') := (bA (Below.refl w.heap.size w) (.cells #[] 72)).grown hgrow (by simp) (fun k hk => by
    have : w.heap.size = k := by simpa [Value.ownBlock] using hk
    omega)
  have HM : Hid (OpsM w' v' xs (fun b => w.heap.size ≤ b)) := by
    show OpsM _ _ _ _
    rw [Nat.zero_add, List.nil_append] at hown
    rcases hown.2 with ⟨h1, h2⟩ | ⟨G, c, cur, h1, _⟩
    · have hx : xs = [] := List.eq_nil_of_length_eq_zero (by omega)
      subst hx
      exact Or.inl ⟨rfl, _, _, h1⟩
    · subst h1
      exact opsM_of_owns hown
  clear hown hgrow hnn
  go_wp2
  go_ret
  exact ⟨_, rfl, unhide HM, unhide dB⟩
theorem OssM.putM {wr w1 : World} {G k : Nat} {lb : Nat → Nat} {oss : List (List O2)} {u : Value} (h : OssM wr G lb (oss.take k)) (hG : G < wr.heap.size) (hk : k < oss.length) (hb1 : Below wr.heap.size wr w1) (hu : OpsM w1 u oss[k] (fun b => wr.heap.size ≤ b)) (hall : ∃ v, w1.cell? ⟨G, k, none⟩ = some v) :
    OssM (w1.setCell ⟨G, k, none⟩ u) G (fun b => if wr.heap.size ≤ b then k else lb b) (oss.take (k + 1)) := fun i xs hx => by
  have hBt : ButM (fun b => b = G) w1 (w1.setCell ⟨G, k, none⟩ u) := ButM.set (S := fun b => b = G) (ButM.refl _ _) rfl _
  rw [take_snocN oss k hk] at hx
  have hl : (oss.take k).length = k := by simp; omega
  by_cases hi : i < k
  · rw [List.getElem?_append_left (by omega)] at hx
    obtain ⟨u', hu', hr⟩ := h i xs hx
    refine ⟨u', by rw [setCell_otherN (by omega)]; exact (hb1.cell (p := ⟨G, i, none⟩) hG).trans hu', ?_⟩
    have h1 := hr.mono (T := fun b => G < b ∧ (if wr.heap.size ≤ b then k else lb b) = i) (fun b hb hs => ⟨hs.1, by rw [if_neg (by omega)]; exact hs.2⟩)
    exact (h1.of hb1).but hBt (fun b hb e => by have := hb.1; omega)
  · obtain rfl : i = k := by
      have := (List.getElem?_eq_some_iff.1 hx).1
      simp at this; omega
    rw [List.getElem?_append_right (by omega)] at hx
    simp [hl] at hx
    subst hx
    obtain ⟨v, hv⟩ := hall
    exact ⟨_, World.cell?_setCell_same _ _ _ hv, (hu.mono (T := fun b => G < b ∧ (if wr.heap.size ≤ b then i else lb b) = i) (fun b _ e => ⟨by omega, by rw [if_pos e]⟩)).but hBt (fun b hb e => by have := hb.1; omega)⟩
structure FrO (w : World) (G n : Nat) : Prop where
  size : G < w.heap.size
  frz : ∀ o, w.frozen? ⟨G, o, none⟩ = false
  all : ∀ o, o < n → ∃ v, w.cell? ⟨G, o, none⟩ = some v
  blk : ∃ cur, w.heap[G]? = some (.cells cur 64 (0, 0)) ∧ cur.size = n
theorem FrO.of {w w1 : World} {G n : Nat} (h : FrO w G n) (hb : Below w.heap.size w w1) : FrO w1 G n :=
  ⟨Nat.lt_of_lt_of_le h.size hb.size, fun o => (hb.frozen (p := ⟨G, o, none⟩) h.size).trans (h.frz o), fun o ho => by
    obtain ⟨v, hv⟩ := h.all o ho
    exact ⟨v, (hb.cell (p := ⟨G, o, none⟩) h.size).trans hv⟩, by
    obtain ⟨cur, h1, h2⟩ := h.blk
    exact ⟨cur, by rw [hb.block G h.size]; exact h1, h2⟩⟩
theorem FrO.put {w : World} {G n k : Nat} (h : FrO w G n) (hk : k < n) (u : Value) : FrO (w.setCell ⟨G, k, none⟩ u) G n :=
  ⟨by have := h.size; simpa using this, fun o => by simp [go_sem, h.frz o], fun o ho => by
    obtain ⟨v, hv⟩ := h.all o ho
    by_cases e : o = k
    · subst e; exact ⟨u, World.cell?_setCell_same _ _ _ hv⟩
    · exact ⟨v, by rw [setCell_otherN (by omega)]; exact hv⟩, by
    obtain ⟨cur, h1, h2⟩ := h.blk
    exact ⟨_, Go.heap_setCell_same w G k cur _ u h1, by simpa using h2⟩⟩
set_option maxRecDepth 100000 in
set_option maxHeartbeats 4000000 in
theorem cloneExs_calls (oss : List (List O2)) (g cap : Nat) (w : World) (hg : g < w.heap.size) (hr : OpssAt w g oss) (hn : oss.length ≤ 1048576) (hk : ∀ xs ∈ oss, xs.length ≤ 1048576) :
    Calls Tryz.prog 33 #[.slice (some ⟨g, 0, none⟩) oss.length cap] w fun e w' => ∃ (G : Nat) (lb : Nat → Nat), e = .returned (.slice (some ⟨G, 0, none⟩) oss.length oss.length) ∧ w.heap.size ≤ G ∧ FrO w' G oss.length ∧ OssM w' G lb oss ∧ Below w.heap.size w w' := by
  have hmk := make_opss oss.length hn
  have hO : Hid (OwnOpss (w.alloc (.cells (madeCells #[.slice none 0 0] oss.length) 64)) w.heap.size oss.length []) := OwnOpss.made w _ _ _ (by simp [size_madeCells])
  have HR := hide hr; have HK := hide hk
  clear hr hk
  go_enter Tryz.func33, Tryz.ntmps33
  go_wp2
  go_loopw [11] (fun c wr => ∃ (k : Nat) (lb : Nat → Nat), k ≤ oss.length ∧ c = .int .i64 k ∧ FrO wr w.heap.size oss.length ∧ OssM wr w.heap.size lb (oss.take k) ∧ Below w.heap.size w wr) (fun c _ => oss.length - (intOf c).toNat)
  case atStart => exact ⟨0, fun _ => 0, Nat.zero_le _, rfl, ⟨(unhide hO).size, (unhide hO).frz, (unhide hO).all, _, (MapKept.heap_alloc w _).1, by simp [size_madeCells]⟩, by rw [List.take_zero]; exact OssM.nil _ _ _, bA (Below.refl _ _) _⟩
  case round =>
    clear hO hmk
    obtain ⟨k, lb, hk, rfl, hF, hL, hb⟩ := hrel
    by_cases hlt : k < oss.length
    · obtain ⟨bx, c0, _, hbx, hox⟩ := ((unhide HR).of hg hb) k oss[k] (List.getElem?_eq_getElem hlt)
      have hkl := unhide HK _ (List.getElem_mem hlt)
      have j1 : (k : Int) < (oss.length : Int) := by omega
      have q1 : g < wr.heap.size := Nat.lt_of_lt_of_le hg hb.size
      have HC := hide (CloneOps_calls oss[k] bx 0 (oss[k]).length wr hbx hox hkl)
      have HP := hide (fun w1 u hb1 hu => OssM.putM (w1 := w1) (u := u) hL hF.size hlt hb1 hu ((hF.of hb1).all k hlt))
      clear hox hkl hL
      generalize oss[k] = xs at *
      go_wp2_with fail
      refine (unhide HC).mono ?_; rintro e w1 ⟨u, rfl, hu, hb1⟩
      have HQ := hide (unhide HP w1 u hb1 hu)
      obtain ⟨ua, uc, rfl⟩ := hu.slice
      have d1 := bT hb hb1
      have hF1 := hF.of hb1
      obtain ⟨u0, hu0⟩ := hF1.all k hlt
      have hf1 := hF1.frz
      have hs1 := hF1.size
      have HF2 := hide (hF1.put hlt (.slice ua xs.length uc))
      have HB2 := hide (d1.setCell (p := ⟨w.heap.size, k, none⟩) (Nat.le_refl _) (.slice ua xs.length uc))
      clear HC HP hu hb1 c0
      go_wp2
      go_roundw
      case rel => exact ⟨k + 1, _, by omega, by go_num, unhide HF2, unhide HQ, unhide HB2⟩
      case measure => simp [intOf]; omega
    · obtain rfl : k = oss.length := by omega
      rw [List.take_length] at hL
      go_wp2
      go_ret
      exact ⟨_, lb, rfl, Nat.le_refl _, hF, hL, hb⟩
set_option maxRecDepth 100000 in
set_option maxHeartbeats 4000000 in
theorem columnExs_calls (n : Nat) (nz : Int) (hnz : nz = (n : Int)) (w : World) (hn : n ≤ 1048576) :
    Calls Tryz.prog 70 #[.int .i64 nz] w fun e w' => ∃ (G : Nat) (lb : Nat → Nat), e = .returned (.slice (some ⟨G, 0, none⟩) n n) ∧ w.heap.size ≤ G ∧ FrO w' G n ∧ OssM w' G lb (colExs n) ∧ Below w.heap.size w w' := by
  subst hnz
  have hmk := make_opss n hn
  have hO : Hid (OwnOpss (w.alloc (.cells (madeCells #[.slice none 0 0] n) 64)) w.heap.size n []) := OwnOpss.made w _ _ _ (by simp [size_madeCells])
  have HCl := hide (colExs_length n)
  go_enter Tryz.func70, Tryz.ntmps70
  go_wp2
  go_loopw [9] (fun c wr => ∃ (k : Nat) (lb : Nat → Nat), k ≤ n ∧ c = .int .i64 k ∧ FrO wr w.heap.size n ∧ OssM wr w.heap.size lb ((colExs n).take k) ∧ Below w.heap.size w wr) (fun c _ => n - (intOf c).toNat)
  case atStart => exact ⟨0, fun _ => 0, Nat.zero_le _, rfl, ⟨(unhide hO).size, (unhide hO).frz, (unhide hO).all, _, (MapKept.heap_alloc w _).1, by simp [size_madeCells]⟩, by rw [List.take_zero]; exact OssM.nil _ _ _, bA (Below.refl _ _) _⟩
  case round =>
    clear hO hmk
    obtain ⟨k, lb, hk, rfl, hF, hL, hb⟩ := hrel
    by_cases hlt : k < n
    · have j1 : (k : Int) < (n : Int) := by omega
      have hx := bA (Below.refl wr.heap.size wr) (.cells #[.int .i64 3, .int .i64 (k : Int)] 72)
      have hck : (colExs n)[k]'(by rw [colExs_length]; exact hlt) = [((3 : Int), (k : Int))] := by simp [colExs]
      have HQ := hide (OssM.putM (k := k) (u := .slice (some ⟨wr.heap.size, 0, none⟩) 1 1) hL hF.size (by rw [colExs_length]; exact hlt) hx (by rw [hck]; exact opsM_one 72 (Nat.le_refl _)) ((hF.of hx).all k hlt))
      have hF1 := hF.of hx
      obtain ⟨u0, hu0⟩ := hF1.all k hlt
      have hf1 := hF1.frz
      have hs0 := hF.size
      have hs1 := hF1.size
      have HF2 := hide (hF1.put hlt (.slice (some ⟨wr.heap.size, 0, none⟩) 1 1))
      have HB2 := hide ((bT hb hx).setCell (p := ⟨w.heap.size, k, none⟩) (Nat.le_refl _) (.slice (some ⟨wr.heap.size, 0, none⟩) 1 1))
      have heq : ((wr.alloc (.cells #[.int .i64 3, .int .i64 (k : Int)] 72)).setCell ⟨w.heap.size, k, none⟩ (.slice (some ⟨wr.heap.size, 0, none⟩) 1 1)) = ((wr.setCell ⟨w.heap.size, k, none⟩ (.slice (some ⟨wr.heap.size, 0, none⟩) 1 1)).alloc (.cells #[.int .i64 3, .int .i64 (k : Int)] 72)) := by simp [go_sem, hs0]
      rw [heq] at HF2 HQ HB2
      clear hx hck hL heq
      go_wp2
      go_roundw
      case rel => exact ⟨k + 1, _, by omega, by go_num, unhide HF2, unhide HQ, unhide HB2⟩
      case measure => simp [intOf]; omega
    · obtain rfl : k = n := by omega
      rw [List.take_of_length_le (by rw [colExs_length]; exact Nat.le_refl _)] at hL
      go_wp2
      go_ret
      exact ⟨_, lb, rfl, Nat.le_refl _, hF, hL, hb⟩
end Go.Proofs.YtnchcndcinpalaaGreatDoor
namespace Go.Proofs.YtnchcndcinpalaaGreatDoor
open Go Go.RowKit
structure UBox (w : World) (U : Nat) (pl wd fl : Value) : Prop where
  c0 : w.cell? ⟨U, 0, none⟩ = some pl
  c1 : w.cell? ⟨U, 1, none⟩ = some wd
  c2 : w.cell? ⟨U, 2, none⟩ = some fl
  fz : ∀ o, w.frozen? ⟨U, o, none⟩ = false
  sz : U < w.heap.size
theorem UBox.of {w w1 : World} {U : Nat} {pl wd fl : Value} (h : UBox w U pl wd fl) (hb : Below w.heap.size w w1) : UBox w1 U pl wd fl :=
  ⟨(hb.cell (p := ⟨U, 0, none⟩) h.sz).trans h.c0, (hb.cell (p := ⟨U, 1, none⟩) h.sz).trans h.c1, (hb.cell (p := ⟨U, 2, none⟩) h.sz).trans h.c2, fun o => (hb.frozen (p := ⟨U, o, none⟩) h.sz).trans (h.fz o), Nat.lt_of_lt_of_le h.sz hb.size⟩
theorem UBox.butB {S : Nat → Prop} {w w1 : World} {U : Nat} {pl wd fl : Value} (h : UBox w U pl wd fl) (hb : ButB S w w1) (hn : ¬ S U) : UBox w1 U pl wd fl :=
  ⟨(hb.cell U 0 h.sz hn).trans h.c0, (hb.cell U 1 h.sz hn).trans h.c1, (hb.cell U 2 h.sz hn).trans h.c2, fun o => (hb.frz U o h.sz hn).trans (h.fz o), Nat.lt_of_lt_of_le h.sz hb.size⟩
theorem UBox.set {w : World} {U : Nat} {pl wd fl : Value} (h : UBox w U pl wd fl) (fl' : Value) : UBox (w.setCell ⟨U, 2, none⟩ fl') U pl wd fl' :=
  ⟨(setCell_otherN (by omega)).trans h.c0, (setCell_otherN (by omega)).trans h.c1, World.cell?_setCell_same _ _ _ h.c2, fun o => (frozen_setCellN ..).trans (h.fz o), by simpa using h.sz⟩
set_option maxRecDepth 100000 in
set_option maxHeartbeats 4000000 in
theorem add_calls (K T M Wd L R : Int) (Ex : List O2) (Exs : List (List O2)) (A4 A5 : Option Addr) (n4 n5 k4 k5 : Nat) (U G c n : Nat) (lab : Lb) (cs : List Value) (fs : List Fn) (pl wd : Value) (W : World) (a1 a2 a3 a4 G5 : Nat) (lb : Nat → Nat)
    (hU : UBox W U pl wd (.slice (some ⟨G, 0, none⟩) n c)) (hL : GrowL W lab (U + 1) G c n cs fs) (hn : n ≤ 5000)
    (f1 : Free lab a1 a2) (f2 : Free lab a3 a4) (r1 : a1 < a2 → U + 1 ≤ a1 ∧ a2 ≤ W.heap.size ∧ ¬ (a1 ≤ G ∧ G < a2)) (r2 : a3 < a4 → U + 1 ≤ a3 ∧ a4 ≤ W.heap.size ∧ ¬ (a3 ≤ G ∧ G < a4)) (r3 : a1 < a2 → a3 < a4 → a2 ≤ a3 ∨ a4 ≤ a1)
    (h4 : OpsM W (.slice A4 n4 k4) Ex (fun b => a1 ≤ b ∧ b < a2)) (h5 : OpssM W (.slice A5 n5 k5) Exs (fun b => a3 ≤ b ∧ b < a4 ∧ b = G5) (fun i b => a3 ≤ b ∧ b < a4 ∧ b ≠ G5 ∧ lb b = i)) :
    Calls Tryz.prog 47 #[.pointer (some ⟨U, 0, none⟩), .agg #[.int .i64 K, .int .i64 T, .int .i64 M, .int .i64 Wd, .slice A4 n4 k4, .slice A5 n5 k5, .int .i64 L, .int .i64 R]] W fun e w' => ∃ G2 c2, e = .returned (.int .i64 (n : Int)) ∧ UBox w' U pl wd (.slice (some ⟨G2, 0, none⟩) (n + 1) c2) ∧
      GrowL w' (labP lab n a1 a2 a3 a4 G5 lb) (U + 1) G2 c2 (n + 1) (cs ++ vFn ⟨K, T, M, Wd, Ex, Exs, L, R⟩ (.slice A4 n4 k4) (.slice A5 n5 k5)) (fs ++ [⟨K, T, M, Wd, Ex, Exs, L, R⟩]) ∧ ButB (fun b => b = G ∨ b = U) W w' ∧ (G2 = G ∨ W.heap.size ≤ G2) := by
  obtain ⟨ii, hii, hz⟩ := Option.map_eq_some_iff.1 (show (Tryz.prog.info? 67).map (fun i => (i.zero, i.size, i.bytes)) = some (some (.agg #[.int .i64 0, .int .i64 0, .int .i64 0, .int .i64 0, .slice none 0 0, .slice none 0 0, .int .i64 0, .int .i64 0]), 8, 96) by kernel_rfl)
  simp only [Prod.mk.injEq] at hz
  obtain ⟨hz0, hz1, hz2⟩ := hz
  have hGl := hL.lt
  have u2 := hU.c2
  have uf := hU.fz
  have us := hU.sz
  have HU := hide hU; have HL := hide hL; have H4 := hide h4; have H5 := hide h5
  have HF1 := hide f1; have HF2 := hide f2; have HR1 := hide r1; have HR2 := hide r2; have HR3 := hide r3
  clear hU hL h4 h5 f1 f2 r1 r2 r3
  go_enter Tryz.func47, Tryz.ntmps47
  go_upto_region 1 with fail
  go_region_law (first
    | (have hd : Below W.heap.size W ((W.alloc (.cells #[.int .i64 K, .int .i64 T, .int .i64 M, .int .i64 Wd, .slice A4 n4 k4, .slice A5 n5 k5, .int .i64 L, .int .i64 R] 67)).alloc (.cells #[.int .i64 K, .int .i64 T, .int .i64 M, .int .i64 Wd, .slice A4 n4 k4, .slice A5 n5 k5, .int .i64 L, .int .i64 R] 67)).drew := Below.drew (bA (bA (Below.refl _ _) _) _)
       have hLx := (unhide HL).of hd
       refine step_append_lies _ rfl (.tmp 9) (.tmp 11) 30 rfl (U + 1) 67 ii _ 8 96 Tryz.underlying30 hii hz0 hz1 hz2 rfl (by decide) (.slice (some ⟨G, 0, none⟩) n c) n cs rfl hLx.own ⟨_, 0, none⟩ 1 1 [.int .i64 K, .int .i64 T, .int .i64 M, .int .i64 Wd, .slice A4 n4 k4, .slice A5 n5 k5, .int .i64 L, .int .i64 R] rfl rfl (World.news_of_block (cs := #[.int .i64 K, .int .i64 T, .int .i64 M, .int .i64 Wd, .slice A4 n4 k4, .slice A5 n5 k5, .int .i64 L, .int .i64 R]) (B := W.heap.size + 1) (by have h' := (MapKept.heap_alloc (W.alloc (.cells #[.int .i64 K, .int .i64 T, .int .i64 M, .int .i64 Wd, .slice A4 n4 k4, .slice A5 n5 k5, .int .i64 L, .int .i64 R] 67)) (.cells #[.int .i64 K, .int .i64 T, .int .i64 M, .int .i64 Wd, .slice A4 n4 k4, .slice A5 n5 k5, .int .i64 L, .int .i64 R] 67)).1; rw [show (W.alloc (.cells #[.int .i64 K, .int .i64 T, .int .i64 M, .int .i64 Wd, .slice A4 n4 k4, .slice A5 n5 k5, .int .i64 L, .int .i64 R] 67)).heap.size = W.heap.size + 1 by simp] at h'; exact h')) (by intro u hu; simp at hu; rcases hu with rfl | rfl | rfl | rfl | rfl | rfl | rfl | rfl <;> rfl) (by decide) (by unfold maxLen; omega) (by omega) (by (try simp); omega) _ rfl ?_
       intro G2 c2 w9 hown hgr hat hlt
       have hat' : G2 = G ∨ G2 = ((W.alloc (.cells #[.int .i64 K, .int .i64 T, .int .i64 M, .int .i64 Wd, .slice A4 n4 k4, .slice A5 n5 k5, .int .i64 L, .int .i64 R] 67)).alloc (.cells #[.int .i64 K, .int .i64 T, .int .i64 M, .int .i64 Wd, .slice A4 n4 k4, .slice A5 n5 k5, .int .i64 L, .int .i64 R] 67)).drew.heap.size := hat.imp (fun e => by simpa [Value.ownBlock] using e.symm) (fun e => e)
       have hBg : ButB (fun b => b = G) ((W.alloc (.cells #[.int .i64 K, .int .i64 T, .int .i64 M, .int .i64 Wd, .slice A4 n4 k4, .slice A5 n5 k5, .int .i64 L, .int .i64 R] 67)).alloc (.cells #[.int .i64 K, .int .i64 T, .int .i64 M, .int .i64 Wd, .slice A4 n4 k4, .slice A5 n5 k5, .int .i64 L, .int .i64 R] 67)).drew w9 := ButB.grown hgr (fun b e => by simpa [Value.ownBlock] using e.symm)
       have hUx := ((unhide HU).of hd).butB hBg (by omega)
       have hzx : W.heap.size + 2 = ((W.alloc (.cells #[.int .i64 K, .int .i64 T, .int .i64 M, .int .i64 Wd, .slice A4 n4 k4, .slice A5 n5 k5, .int .i64 L, .int .i64 R] 67)).alloc (.cells #[.int .i64 K, .int .i64 T, .int .i64 M, .int .i64 Wd, .slice A4 n4 k4, .slice A5 n5 k5, .int .i64 L, .int .i64 R] 67)).drew.heap.size := by simp
       have hG9 := hLx.push (p := ⟨K, T, M, Wd, Ex, Exs, L, R⟩) (a1 := a1) (a2 := a2) (a3 := a3) (a4 := a4) (G5 := G5) (lb := lb) (unhide HF1) (unhide HF2) (fun h => ⟨(unhide HR1 h).1, by have := (unhide HR1 h).2.1; omega, (unhide HR1 h).2.2⟩) (fun h => ⟨(unhide HR2 h).1, by have := (unhide HR2 h).2.1; omega, (unhide HR2 h).2.2⟩) (unhide HR3) ((unhide H4).of hd) ((unhide H5).of hd) hown hgr hat'
       have hl9 := hG9.lt
       have hBs : ButB (fun b => b = U) w9 (w9.setCell ⟨U, 2, none⟩ (.slice (some ⟨G2, 0, none⟩) (n + 1) c2)) := ButB.set (S := fun b => b = U) (ButB.refl _ _) (Or.inl rfl) _
       have HGf := hide (hG9.butB hBs (by omega) (fun b h e => by have := hG9.rng b h; omega))
       have HUf := hide (hUx.set (.slice (some ⟨G2, 0, none⟩) (n + 1) c2))
       have HBf : Hid (ButB (fun b => b = G ∨ b = U) W (w9.setCell ⟨U, 2, none⟩ (.slice (some ⟨G2, 0, none⟩) (n + 1) c2))) := ((ButB.ofBelow hd).trans (hBg.mono (fun b e => Or.inl e))).trans (hBs.mono (fun b e => Or.inr e))
       have hG2 : G2 = G ∨ W.heap.size ≤ G2 := hat'.imp id (fun e => by omega)
       have v2 := hUx.c2
       have vf := hUx.fz
       have vs := hUx.sz
       clear hd hLx hown hgr hat hat' hBg hUx hzx hG9 hBs hlt hl9))
  all_goals (
    clear u2 uf us
    go_wp2
    go_ret
    exact ⟨G2, c2, by first | rfl | simp [go_sem], unhide HUf, unhide HGf, unhide HBf, hG2⟩)
end Go.Proofs.YtnchcndcinpalaaGreatDoor
namespace Go.Proofs.YtnchcndcinpalaaGreatDoor
open Go Go.RowKit
def nOk (u : Bool) (n lo hi : Int) : Bool := if u then decide (lo ≤ n ∧ n ≤ hi) else decide (n = 0)
theorem numberOk_calls (u : Bool) (n lo hi : Int) (w : World) : Calls Tryz.prog 105 #[.bool u, .int .i64 n, .int .i64 lo, .int .i64 hi] w fun e w' => e = .returned (.bool (nOk u n lo hi)) ∧ w' = w := by
  cases u
  · have HE : Hid (nOk false n lo hi = (n == 0)) := by
      show _ = _
      unfold nOk
      rw [Bool.eq_iff_iff]
      simp
    generalize nOk false n lo hi = E at *
    go_enter Tryz.func105, Tryz.ntmps105
    go_wp2
    go_ret
    exact ⟨congrArg (fun z => Ending.returned (.bool z)) HE.out.symm, rfl⟩
  · by_cases h1 : lo ≤ n
    · by_cases h2 : n ≤ hi
      · have HE : Hid (nOk true n lo hi = true) := by
          show _ = _
          unfold nOk
          simp [h1, h2]
        generalize nOk true n lo hi = E at *
        go_enter Tryz.func105, Tryz.ntmps105
        go_wp2
        go_ret
        exact ⟨congrArg (fun z => Ending.returned (.bool z)) HE.out.symm, rfl⟩
      · have HE : Hid (nOk true n lo hi = false) := by
          show _ = _
          unfold nOk
          simp [h1, h2]
        generalize nOk true n lo hi = E at *
        go_enter Tryz.func105, Tryz.ntmps105
        go_wp2
        go_ret
        exact ⟨congrArg (fun z => Ending.returned (.bool z)) HE.out.symm, rfl⟩
    · have HE : Hid (nOk true n lo hi = false) := by
        show _ = _
        unfold nOk
        simp [h1]
      generalize nOk true n lo hi = E at *
      go_enter Tryz.func105, Tryz.ntmps105
      go_wp2
      go_ret
      exact ⟨congrArg (fun z => Ending.returned (.bool z)) HE.out.symm, rfl⟩
theorem fUses_calls (b0 b1 b2 b3 b4 b5 b6 b7 : Bool) (m : Int) (w : World) : Calls Tryz.prog 123 #[.agg #[.bool b0, .bool b1, .bool b2, .bool b3, .bool b4, .bool b5, .bool b6, .bool b7], .int .i64 m] w fun e w' => e = .returned (.bool (b2 && (m != 1))) ∧ Below w.heap.size w w' := by
  cases b2
  · go_enter Tryz.func123, Tryz.ntmps123
    go_wp2
    go_ret
    exact ⟨rfl, bA (Below.refl _ _) _⟩
  · go_enter Tryz.func123, Tryz.ntmps123
    go_wp2
    go_ret
    exact ⟨rfl, bA (Below.refl _ _) _⟩
theorem fKids_none (b0 b1 b2 b3 b6 b7 : Bool) (L R : Int) (w : World) : Calls Tryz.prog 107 #[.agg #[.bool b0, .bool b1, .bool b2, .bool b3, .bool false, .bool false, .bool b6, .bool b7], .int .i64 L, .int .i64 R] w fun e w' => e = .returned (.slice none 0 0) ∧ Below w.heap.size w w' := by
  go_enter Tryz.func107, Tryz.ntmps107
  go_wp2
  go_ret
  exact ⟨rfl, (by (repeat (first | exact Below.refl _ _ | refine bA ?_ _ | refine Below.setCell ?_ (by simp <;> omega) _)))⟩
theorem fKids_one (b0 b1 b2 b3 b6 b7 : Bool) (L R : Int) (w : World) : Calls Tryz.prog 107 #[.agg #[.bool b0, .bool b1, .bool b2, .bool b3, .bool true, .bool false, .bool b6, .bool b7], .int .i64 L, .int .i64 R] w fun e w' => ∃ b, e = .returned (.slice (some ⟨b, 0, none⟩) 1 1) ∧ w.heap.size ≤ b ∧ b < w'.heap.size ∧ w'.cell? ⟨b, 0, none⟩ = some (.int .i64 L) ∧ Below w.heap.size w w' := by
  go_enter Tryz.func107, Tryz.ntmps107
  go_wp2
  go_ret
  refine ⟨_, rfl, ?_, ?_, by simp [go_sem], (by (repeat (first | exact Below.refl _ _ | refine bA ?_ _ | refine Below.setCell ?_ (by simp <;> omega) _)))⟩
  · first | omega | (simp <;> omega)
  · first | omega | (simp <;> omega)
theorem fKids_two (b0 b1 b2 b3 b4 b6 b7 : Bool) (L R : Int) (w : World) : Calls Tryz.prog 107 #[.agg #[.bool b0, .bool b1, .bool b2, .bool b3, .bool b4, .bool true, .bool b6, .bool b7], .int .i64 L, .int .i64 R] w fun e w' => ∃ b, e = .returned (.slice (some ⟨b, 0, none⟩) 2 2) ∧ w.heap.size ≤ b ∧ b < w'.heap.size ∧ w'.cell? ⟨b, 0, none⟩ = some (.int .i64 R) ∧ w'.cell? ⟨b, 1, none⟩ = some (.int .i64 L) ∧ Below w.heap.size w w' := by
  go_enter Tryz.func107, Tryz.ntmps107
  go_wp2
  go_ret
  refine ⟨_, rfl, ?_, ?_, by simp [go_sem], by simp [go_sem], (by (repeat (first | exact Below.refl _ _ | refine bA ?_ _ | refine Below.setCell ?_ (by simp <;> omega) _)))⟩
  · first | omega | (simp <;> omega)
  · first | omega | (simp <;> omega)
end Go.Proofs.YtnchcndcinpalaaGreatDoor
