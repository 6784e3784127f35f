import Derived.Test.YtnchcndcinpalaaGreatDoorQ44
import Derived.Test.YtnchcndcinpalaaGreatDoorQ4
import Derived.Deep.RegionHeld3
import Derived.Deep.DeepCutAuto
import Derived.OwnWalk
namespace Go.Proofs.YtnchcndcinpalaaGreatDoor
open Go Go.RowKit
set_option maxHeartbeats 1000000 in
theorem eqOpS_nil (a a' : Option Addr) (c c' : Nat) (w : World) : Calls Tryz.prog 108 #[.slice a 0 c, .slice a' 0 c'] w fun e w' => e = .returned (.bool true) ∧ Below w.heap.size w w' := by
  go_enter Tryz.func108, Tryz.ntmps108
  go_wp2
  go_loopw [5] (fun c wr => c = .int .i64 0 ∧ Below w.heap.size w wr) (fun _ _ => 0)
  case atStart => exact ⟨rfl, Below.refl _ _⟩
  case round =>
    obtain ⟨rfl, hb⟩ := hrel
    go_wp2
    go_ret
    exact ⟨rfl, hb⟩
theorem eqOpS_is (u u' : Value) (xs : List O2) (w : World) (h : IsOps w u xs) (h' : IsOps w u' xs) (b1 : xs.length ≤ 1048576) : Calls Tryz.prog 108 #[u, u'] w fun e w' => e = .returned (.bool true) ∧ Below w.heap.size w w' := by
  by_cases hx : xs = []
  · subst hx
    obtain ⟨a, c, rfl⟩ := isOps_slice h
    obtain ⟨a', c', rfl⟩ := isOps_slice h'
    exact eqOpS_nil a a' c c' w
  · rcases h with ⟨e, _⟩ | ⟨g, off, cap, rfl, _, hg, ho⟩
    · exact absurd e hx
    rcases h' with ⟨e, _⟩ | ⟨g', off', cap', rfl, _, hg', ho'⟩
    · exact absurd e hx
    exact eqOpS_calls xs g off cap g' off' cap' w hg hg' ho ho' b1
set_option maxHeartbeats 1000000 in
theorem eqOpSS_nil (a a' : Option Addr) (c c' : Nat) (w : World) : Calls Tryz.prog 109 #[.slice a 0 c, .slice a' 0 c'] w fun e w' => e = .returned (.bool true) ∧ Below w.heap.size w w' := by
  go_enter Tryz.func109, Tryz.ntmps109
  go_wp2
  go_loopw [5] (fun c wr => c = .int .i64 0 ∧ Below w.heap.size w wr) (fun _ _ => 0)
  case atStart => exact ⟨rfl, Below.refl _ _⟩
  case round =>
    obtain ⟨rfl, hb⟩ := hrel
    go_wp2
    go_ret
    exact ⟨rfl, hb⟩
set_option maxHeartbeats 2000000 in
theorem eqOpSS_is (u u' : Value) (oss : List (List O2)) (w : World) (h : IsOpss w u oss) (h' : IsOpss w u' oss) (b1 : oss.length ≤ 1048576) (hk : ∀ xs ∈ oss, xs.length ≤ 1048576) : Calls Tryz.prog 109 #[u, u'] w fun e w' => e = .returned (.bool true) ∧ Below w.heap.size w w' := by
  by_cases hx : oss = []
  · subst hx
    have s : ∀ {v : Value}, IsOpss w v [] → ∃ a c, v = .slice a 0 c := fun {v} hv => by
      rcases hv with ⟨_, a, c, rfl⟩ | ⟨g, off, cap, rfl, _⟩
      · exact ⟨a, c, rfl⟩
      · exact ⟨_, _, rfl⟩
    obtain ⟨a, c, rfl⟩ := s h
    obtain ⟨a', c', rfl⟩ := s h'
    exact eqOpSS_nil a a' c c' w
  · rcases h with ⟨e, _⟩ | ⟨g, off, cap, rfl, hg, ho⟩
    · exact absurd e hx
    rcases h' with ⟨e, _⟩ | ⟨g', off', cap', rfl, hg', ho'⟩
    · exact absurd e hx
    have e0 : ((oss.length : Int) != (oss.length : Int)) = false := by simp
    have HX := hide ho; have HY := hide ho'; have HK := hide hk
    clear ho ho' hk hx
    go_enter Tryz.func109, Tryz.ntmps109
    go_wp2
    go_loopw [5] (fun c wr => ∃ k : Nat, k ≤ oss.length ∧ c = .int .i64 k ∧ Below w.heap.size w wr) (fun c _ => oss.length - (intOf c).toNat)
    case atStart => exact ⟨0, Nat.zero_le _, rfl, Below.refl _ _⟩
    case round =>
      obtain ⟨k, hk1, rfl, hb⟩ := hrel
      by_cases l1 : k < oss.length
      · obtain ⟨ux, x0', hox⟩ := unhide HX k oss[k] (List.getElem?_eq_getElem l1)
        obtain ⟨uy, y0', hoy⟩ := unhide HY k oss[k] (List.getElem?_eq_getElem l1)
        have x0 := (hb.cell (p := ⟨g, off + k, none⟩) hg).trans x0'
        have y0 := (hb.cell (p := ⟨g', off' + k, none⟩) hg').trans y0'
        obtain ⟨a, ca, rfl⟩ := isOps_slice hox
        obtain ⟨a', ca', rfl⟩ := isOps_slice hoy
        have hkl := unhide HK _ (List.getElem_mem l1)
        have j1 : (k : Int) < (oss.length : Int) := by omega
        have q1 : g < wr.heap.size := Nat.lt_of_lt_of_le hg hb.size
        have q2 : g' < wr.heap.size := Nat.lt_of_lt_of_le hg' hb.size
        have EN : Hid (∀ W, Std wr W → Calls Tryz.prog 108 #[.slice a (oss[k]).length ca, .slice a' (oss[k]).length ca'] W fun e w' => e = .returned (.bool true) ∧ Below W.heap.size W w') :=
          fun W h => eqOpS_is _ _ oss[k] W ((hox.of hb).of h.2.2) ((hoy.of hb).of h.2.2) hkl
        clear hox hoy hkl x0' y0'
        generalize (oss[k]).length = n at *
        go_upto_region 6 with fail
        have h1 := Below.refl wr.heap.size wr
        have h2 := h1
        go_region_held3 (Std wr) (repeat (first | with_reducible assumption | with_reducible exact Std.refl _ | with_reducible refine Std.drew ?_ | with_reducible refine Std.alloc ?_ _ | with_reducible refine Std.setCell ?_ ?_ _ | with_reducible refine Std.call ?_ (by with_reducible assumption) | (simp <;> omega) | omega)) (first | (go_at_call 108; refine (unhide EN _ (by assumption)).mono ?_; rintro e w1 ⟨rfl, hb⟩; (first | have n3 := bT h2 hb | have n3 := bT (bA h2 _) hb | have n3 := bT (Below.drew h2) hb | have n3 := bT (Below.drew (bA h2 _)) hb | have n3 := bT (bA (Below.drew h2) _) hb); (first | have n2 := bT h1 hb | have n2 := bT (bA h1 _) hb | have n2 := bT (Below.drew h1) hb | have n2 := bT (Below.drew (bA h1 _)) hb | have n2 := bT (bA (Below.drew h1) _) hb); obtain ⟨c1, f1⟩ := bcell hb; obtain ⟨c2, f2⟩ := bcell n2; obtain ⟨c3, f3⟩ := bcell n3; have hs := hb.size; (try simp at hs); clear h1 h2; have h1 := hb; have h2 := n2; clear n2 hb))
        have hS : Std wr w1 := by assumption
        have d2 := bT hb hS.2.2
        go_wp2
        go_roundw
        case rel => exact ⟨k + 1, by omega, by go_num, d2⟩
        case measure => simp [intOf]; omega
      · go_wp2
        go_ret
        exact ⟨rfl, hb⟩
set_option maxHeartbeats 1000000 in
theorem eqFNode_is (K T M Wd L R : Int) (xs : List O2) (oss : List (List O2)) (a4 a5 b4 b5 : Option Addr) (n4 n5 c4 c5 e4 e5 : Nat) (w : World) (h4 : IsOps w (.slice a4 n4 c4) xs) (h4' : IsOps w (.slice b4 n4 e4) xs) (h5 : IsOpss w (.slice a5 n5 c5) oss) (h5' : IsOpss w (.slice b5 n5 e5) oss)
    (b1 : xs.length ≤ 1048576) (b2 : oss.length ≤ 1048576) (hk : ∀ xs ∈ oss, xs.length ≤ 1048576) :
    Calls Tryz.prog 71 #[.agg #[.int .i64 K, .int .i64 T, .int .i64 M, .int .i64 Wd, .slice a4 n4 c4, .slice a5 n5 c5, .int .i64 L, .int .i64 R], .agg #[.int .i64 K, .int .i64 T, .int .i64 M, .int .i64 Wd, .slice b4 n4 e4, .slice b5 n5 e5, .int .i64 L, .int .i64 R]] w fun e w' => e = .returned (.bool true) ∧ Below w.heap.size w w' := by
  have H1 := hide (fun W (h : Below w.heap.size w W) => eqOpS_is _ _ xs W (h4.of h) (h4'.of h) b1)
  have H2 := hide (fun W (h : Below w.heap.size w W) => eqOpSS_is _ _ oss W (h5.of h) (h5'.of h) b2 hk)
  have eK : (K != K) = false := by simp
  have eT : (T != T) = false := by simp
  have eM : (M != M) = false := by simp
  have eW : (Wd != Wd) = false := by simp
  have eL : (L != L) = false := by simp
  have eR : (R != R) = false := by simp
  clear h4 h4' h5 h5' hk
  go_enter Tryz.func71, Tryz.ntmps71
  go_wp2_with fail
  refine (unhide H1 _ (bA (bA (Below.refl _ _) _) _)).mono ?_; rintro e w1 ⟨rfl, hb1⟩
  have d1 := bT (bA (bA (Below.refl w.heap.size w) _) _) hb1
  obtain ⟨hc, hf⟩ := bcell hb1
  have z0 : w.heap.size < w1.heap.size := by have := hb1.size; simp at this; omega
  have z1 : w.heap.size + 1 < w1.heap.size := by have := hb1.size; simp at this; omega
  clear hb1
  go_wp2_with fail
  refine (unhide H2 _ d1).mono ?_; rintro e w2 ⟨rfl, hb2⟩
  have d2 := bT d1 hb2
  obtain ⟨hc2, hf2⟩ := bcell hb2
  clear hb2
  go_wp2
  go_ret
  exact ⟨rfl, d2⟩
set_option maxHeartbeats 1000000 in
theorem eqFNodeS_nil (a a' : Option Addr) (c c' : Nat) (w : World) : Calls Tryz.prog 37 #[.slice a 0 c, .slice a' 0 c'] w fun e w' => e = .returned (.bool true) ∧ Below w.heap.size w w' := by
  go_enter Tryz.func37, Tryz.ntmps37
  go_wp2
  go_loopw [5] (fun c wr => c = .int .i64 0 ∧ Below w.heap.size w wr) (fun _ _ => 0)
  case atStart => exact ⟨rfl, Below.refl _ _⟩
  case round =>
    obtain ⟨rfl, hb⟩ := hrel
    go_wp2
    go_ret
    exact ⟨rfl, hb⟩
set_option maxHeartbeats 4000000 in
theorem eqFNodeS_is (u u' : Value) (ps : List Fn) (w : World) (h : IsFns w u ps) (h' : IsFns w u' ps) (b1 : ps.length ≤ 1048576) (hk : ∀ p ∈ ps, p.Ex.length ≤ 1048576 ∧ p.Exs.length ≤ 1048576 ∧ ∀ xs ∈ p.Exs, xs.length ≤ 1048576) : Calls Tryz.prog 37 #[u, u'] w fun e w' => e = .returned (.bool true) ∧ Below w.heap.size w w' := by
  by_cases hx : ps = []
  · subst hx
    obtain ⟨a, c, rfl⟩ := isFns_slice h
    obtain ⟨a', c', rfl⟩ := isFns_slice h'
    exact eqFNodeS_nil a a' c c' w
  · rcases h with ⟨e, _⟩ | ⟨g, off, cap, rfl, hg, ho⟩
    · exact absurd e hx
    rcases h' with ⟨e, _⟩ | ⟨g', off', cap', rfl, hg', ho'⟩
    · exact absurd e hx
    have e0 : ((ps.length : Int) != (ps.length : Int)) = false := by simp
    have HX := hide ho; have HY := hide ho'; have HK := hide hk
    clear ho ho' hk hx
    go_enter Tryz.func37, Tryz.ntmps37
    go_wp2
    go_loopw [5] (fun c wr => ∃ k : Nat, k ≤ ps.length ∧ c = .int .i64 k ∧ Below w.heap.size w wr) (fun c _ => ps.length - (intOf c).toNat)
    case atStart => exact ⟨0, Nat.zero_le _, rfl, Below.refl _ _⟩
    case round =>
      obtain ⟨k, hk1, rfl, hb⟩ := hrel
      by_cases l1 : k < ps.length
      · obtain ⟨x0, x1, x2, x3, x6, x7, ⟨ux, x4, hox⟩, vx, x5, hpx⟩ := unhide HX k ps[k] (List.getElem?_eq_getElem l1)
        obtain ⟨y0, y1, y2, y3, y6, y7, ⟨uy, y4, hoy⟩, vy, y5, hpy⟩ := unhide HY k ps[k] (List.getElem?_eq_getElem l1)
        obtain ⟨hk1', hk2', hk3'⟩ := unhide HK _ (List.getElem_mem l1)
        replace x0 := (hb.cell (p := ⟨g, off + k * 8, none⟩) hg).trans x0
        replace x1 := (hb.cell (p := ⟨g, off + k * 8 + 1, none⟩) hg).trans x1
        replace x2 := (hb.cell (p := ⟨g, off + k * 8 + 2, none⟩) hg).trans x2
        replace x3 := (hb.cell (p := ⟨g, off + k * 8 + 3, none⟩) hg).trans x3
        replace x4 := (hb.cell (p := ⟨g, off + k * 8 + 4, none⟩) hg).trans x4
        replace x5 := (hb.cell (p := ⟨g, off + k * 8 + 5, none⟩) hg).trans x5
        replace x6 := (hb.cell (p := ⟨g, off + k * 8 + 6, none⟩) hg).trans x6
        replace x7 := (hb.cell (p := ⟨g, off + k * 8 + 7, none⟩) hg).trans x7
        replace y0 := (hb.cell (p := ⟨g', off' + k * 8, none⟩) hg').trans y0
        replace y1 := (hb.cell (p := ⟨g', off' + k * 8 + 1, none⟩) hg').trans y1
        replace y2 := (hb.cell (p := ⟨g', off' + k * 8 + 2, none⟩) hg').trans y2
        replace y3 := (hb.cell (p := ⟨g', off' + k * 8 + 3, none⟩) hg').trans y3
        replace y4 := (hb.cell (p := ⟨g', off' + k * 8 + 4, none⟩) hg').trans y4
        replace y5 := (hb.cell (p := ⟨g', off' + k * 8 + 5, none⟩) hg').trans y5
        replace y6 := (hb.cell (p := ⟨g', off' + k * 8 + 6, none⟩) hg').trans y6
        replace y7 := (hb.cell (p := ⟨g', off' + k * 8 + 7, none⟩) hg').trans y7
        have j1 : (k : Int) < (ps.length : Int) := by omega
        have q1 : g < wr.heap.size := Nat.lt_of_lt_of_le hg hb.size
        have q2 : g' < wr.heap.size := Nat.lt_of_lt_of_le hg' hb.size
        obtain ⟨a4, c4, rfl⟩ := isOps_slice hox
        obtain ⟨b4, e4, rfl⟩ := isOps_slice hoy
        obtain ⟨a5, c5, rfl⟩ := isOpss_slice hpx
        obtain ⟨b5, e5, rfl⟩ := isOpss_slice hpy
        generalize e : ps[k] = pk at *
        clear e
        obtain ⟨K, T, M, Wd, Ex, Exs, L, R⟩ := pk
        simp only at x0 x1 x2 x3 x4 x5 x6 x7 y0 y1 y2 y3 y4 y5 y6 y7 hox hoy hpx hpy hk1' hk2' hk3'
        have EN : Hid (∀ W, Std wr W → Calls Tryz.prog 71 #[.agg #[.int .i64 K, .int .i64 T, .int .i64 M, .int .i64 Wd, .slice a4 Ex.length c4, .slice a5 Exs.length c5, .int .i64 L, .int .i64 R], .agg #[.int .i64 K, .int .i64 T, .int .i64 M, .int .i64 Wd, .slice b4 Ex.length e4, .slice b5 Exs.length e5, .int .i64 L, .int .i64 R]] W fun e w' => e = .returned (.bool true) ∧ Below W.heap.size W w') :=
          fun W h => eqFNode_is K T M Wd L R Ex Exs a4 a5 b4 b5 _ _ c4 c5 e4 e5 W ((hox.of hb).of h.2.2) ((hoy.of hb).of h.2.2) ((hpx.of hb).of h.2.2) ((hpy.of hb).of h.2.2) hk1' hk2' hk3'
        clear hox hoy hpx hpy hk3'
        generalize Ex.length = n4 at *
        generalize Exs.length = n5 at *
        go_upto_region 6 with fail
        have h1 := Below.refl wr.heap.size wr
        have h2 := h1
        go_region_held3 (Std wr) (repeat (first | with_reducible assumption | with_reducible exact Std.refl _ | with_reducible refine Std.drew ?_ | with_reducible refine Std.alloc ?_ _ | with_reducible refine Std.setCell ?_ ?_ _ | with_reducible refine Std.call ?_ (by with_reducible assumption) | (simp <;> omega) | omega)) (first | (go_at_call 71; refine (unhide EN _ (by assumption)).mono ?_; rintro e w1 ⟨rfl, hb⟩; (first | have n3 := bT h2 hb | have n3 := bT (bA h2 _) hb | have n3 := bT (Below.drew h2) hb | have n3 := bT (Below.drew (bA h2 _)) hb | have n3 := bT (bA (Below.drew h2) _) hb); (first | have n2 := bT h1 hb | have n2 := bT (bA h1 _) hb | have n2 := bT (Below.drew h1) hb | have n2 := bT (Below.drew (bA h1 _)) hb | have n2 := bT (bA (Below.drew h1) _) hb); obtain ⟨c1, f1⟩ := bcell hb; obtain ⟨c2, f2⟩ := bcell n2; obtain ⟨c3, f3⟩ := bcell n3; have hs := hb.size; (try simp at hs); clear h1 h2; have h1 := hb; have h2 := n2; clear n2 hb))
        have hS : Std wr w1 := by assumption
        have d2 := bT hb hS.2.2
        go_wp2
        go_roundw
        case rel => exact ⟨k + 1, by omega, by go_num, d2⟩
        case measure => simp [intOf]; omega
      · go_wp2
        go_ret
        exact ⟨rfl, hb⟩
set_option maxHeartbeats 1000000 in
theorem eqFlat_is (Rt : Int) (ps : List Fn) (a a' : Option Addr) (n c c' : Nat) (w : World) (h : IsFns w (.slice a n c) ps) (h' : IsFns w (.slice a' n c') ps) (b1 : ps.length ≤ 1048576) (hk : ∀ p ∈ ps, p.Ex.length ≤ 1048576 ∧ p.Exs.length ≤ 1048576 ∧ ∀ xs ∈ p.Exs, xs.length ≤ 1048576) :
    Calls Tryz.prog 11 #[.agg #[.slice a n c, .int .i64 Rt], .agg #[.slice a' n c', .int .i64 Rt]] w fun e w' => e = .returned (.bool true) ∧ Below w.heap.size w w' := by
  have HEN := hide (fun W (hb : Below w.heap.size w W) => eqFNodeS_is _ _ ps W (h.of hb) (h'.of hb) b1 hk)
  have eR : (Rt != Rt) = false := by simp
  clear h h' hk
  go_enter Tryz.func11, Tryz.ntmps11
  go_wp2_with fail
  refine (unhide HEN _ (bA (bA (Below.refl _ _) _) _)).mono ?_; rintro e w1 ⟨rfl, hb1⟩
  obtain ⟨hc, hf⟩ := bcell hb1
  have z0 : w.heap.size < w1.heap.size := by have := hb1.size; simp at this; omega
  have z1 : w.heap.size + 1 < w1.heap.size := by have := hb1.size; simp at this; omega
  have d1 := bT (bA (bA (Below.refl w.heap.size w) _) _) hb1
  clear hb1
  go_wp2
  go_ret
  exact ⟨rfl, d1⟩
end Go.Proofs.YtnchcndcinpalaaGreatDoor
namespace Go.Proofs.YtnchcndcinpalaaGreatDoor
open Go Go.RowKit
set_option maxHeartbeats 1000000 in
theorem eqValS_calls (xs : List V2) (g off cap g' off' cap' : Nat) (w : World) (hg : g < w.heap.size) (hg' : g' < w.heap.size) (hx : RowAt w g off xs) (hy : RowAt w g' off' xs) (b1 : xs.length ≤ 1048576) :
    Calls Tryz.prog 126 #[.slice (some ⟨g, off, none⟩) xs.length cap, .slice (some ⟨g', off', none⟩) xs.length cap'] w fun e w' => e = .returned (.bool true) ∧ Below w.heap.size w w' := by
  have e0 : ((xs.length : Int) != (xs.length : Int)) = false := by simp
  go_enter Tryz.func126, Tryz.ntmps126
  go_wp2
  go_loopw [5] (fun c wr => ∃ k : Nat, k ≤ xs.length ∧ c = .int .i64 k ∧ Below w.heap.size w wr) (fun c _ => xs.length - (intOf c).toNat)
  case atStart => exact ⟨0, Nat.zero_le _, rfl, Below.refl _ _⟩
  case round =>
    obtain ⟨k, hk1, rfl, hb⟩ := hrel
    by_cases l1 : k < xs.length
    · obtain ⟨x0, x1⟩ := (hx.of hg hb).at k l1
      obtain ⟨y0, y1⟩ := (hy.of hg' hb).at k l1
      have j1 : (k : Int) < (xs.length : Int) := by omega
      have q1 : g < wr.heap.size := Nat.lt_of_lt_of_le hg hb.size
      have q2 : g' < wr.heap.size := Nat.lt_of_lt_of_le hg' hb.size
      have hbool : ((xs[k].1 == xs[k].1) && (xs[k].2 == xs[k].2)) = true := by simp
      go_upto_region 6 with fail
      have h1 := Below.refl wr.heap.size wr
      have h2 := h1
      go_region_held3 (Std wr) (repeat (first | with_reducible assumption | with_reducible exact Std.refl _ | with_reducible refine Std.drew ?_ | with_reducible refine Std.alloc ?_ _ | with_reducible refine Std.setCell ?_ ?_ _ | with_reducible refine Std.call ?_ (by with_reducible assumption) | (simp <;> omega) | omega)) (first | (go_at_call 136; refine (eqVal_calls _ _ _ _ _).mono ?_; rintro e w1 ⟨rfl, hb⟩; (first | have n3 := bT h2 hb | have n3 := bT (bA h2 _) hb | have n3 := bT (Below.drew h2) hb | have n3 := bT (Below.drew (bA h2 _)) hb | have n3 := bT (bA (Below.drew h2) _) hb); (first | have n2 := bT h1 hb | have n2 := bT (bA h1 _) hb | have n2 := bT (Below.drew h1) hb | have n2 := bT (Below.drew (bA h1 _)) hb | have n2 := bT (bA (Below.drew h1) _) hb); obtain ⟨c1, f1⟩ := bcell hb; obtain ⟨c2, f2⟩ := bcell n2; obtain ⟨c3, f3⟩ := bcell n3; have hs := hb.size; (try simp at hs); clear h1 h2; have h1 := hb; have h2 := n2; clear n2 hb))
      have d2 := bT hb h2
      go_wp2
      go_roundw
      case rel => exact ⟨k + 1, by omega, by go_num, d2⟩
      case measure => simp [intOf]; omega
    · go_wp2
      go_ret
      exact ⟨rfl, hb⟩
end Go.Proofs.YtnchcndcinpalaaGreatDoor
namespace Go.Proofs.YtnchcndcinpalaaGreatDoor
open Go Go.RowKit
theorem make_rows (n : Nat) (hn : n ≤ 1048576) (w : World) :
    (Instr.makeSlice 110 (.int .i64 (n : Int)) (.int .i64 (n : Int))).run Tryz.prog w = .ok (.slice (some ⟨w.heap.size, 0, none⟩) n n) (w.alloc (.cells (madeCells #[.slice none 0 0] n) 150)) := by
  obtain ⟨i, hi, hz⟩ := Option.map_eq_some_iff.1 (show (Tryz.prog.info? 150).map (fun i => (i.zero, i.size, i.bytes)) = some (some (.slice none 0 0), 1, 24) by kernel_rfl)
  simp only [Prod.mk.injEq] at hz
  have := run_make (P := Tryz.prog) w 110 150 i _ Tryz.underlying110 hi hz.1 .i64 .i64 (n : Int) (n : Int) (by omega) (by omega) (by rw [hz.2.2]; omega) (by omega)
  rw [hz.2.1] at this
  simpa [Value.cells] using this
theorem make_rows0 (w : World) : (Instr.makeSlice 110 (.int .i64 0) (.int .i64 0)).run Tryz.prog w = .ok (.slice (some ⟨w.heap.size, 0, none⟩) 0 0) (w.alloc (.cells #[] 150)) := by
  have := make_rows 0 (by omega) w
  rw [show madeCells #[.slice none 0 0] 0 = #[] from Array.eq_empty_of_size_eq_zero (by simp [size_madeCells])] at this
  simpa using this
set_option maxHeartbeats 1000000 in
theorem toValSS_calls (v : Value) (xss : List (List V2)) (w : World) (hv : IsRows w v xss) (hn : xss.length ≤ 1048576) (hx : bulk xss ≤ 1048576) :
    Calls Tryz.prog 100 #[v] w fun e w' => ∃ G rs, e = .returned (.slice (some ⟨G, 0, none⟩) xss.length xss.length) ∧ rs.map (fun r : R3 => r.2.2) = xss ∧ w.heap.size ≤ G ∧ OwnGrid w' G xss.length rs ∧ RowsOk w' rs ∧ (∀ r ∈ rs, G < r.1 ∧ r.2.1 = r.2.2.length) ∧ (rs.map (fun r : R3 => r.1)).Nodup ∧ Below w.heap.size w w' := by
  rcases hv with ⟨rfl, a, cap, rfl⟩ | ⟨g, off, cap, rfl, hg, hr⟩
  · have hmk := make_rows0
    clear hn hx
    go_enter Tryz.func100, Tryz.ntmps100
    go_wp2
    go_loopw [4] (fun i wr => i = .int .i64 0 ∧ OwnGrid wr w.heap.size 0 [] ∧ Below w.heap.size w wr) (fun _ _ => 0)
    case atStart => exact ⟨rfl, OwnGrid.made w 0 #[] _ rfl, bA (Below.refl _ _) _⟩
    case round =>
      obtain ⟨rfl, ho, hb⟩ := hrel
      go_wp2
      go_ret
      exact ⟨_, [], rfl, rfl, Nat.le_refl _, ho, fun r hr => (by simp at hr), fun r hr => (by simp at hr), by simp, hb⟩
  · have hmk := make_rows xss.length hn
    have hO : Hid (OwnGrid (w.alloc (.cells (madeCells #[.slice none 0 0] xss.length) 150)) w.heap.size xss.length []) := OwnGrid.made w _ _ _ (by simp [size_madeCells])
    go_enter Tryz.func100, Tryz.ntmps100
    go_wp2
    go_loopw [4] (fun i wr => ∃ (k : Nat) (rs : List R3), k ≤ xss.length ∧ i = .int .i64 k ∧ rs.map (fun r : R3 => r.2.2) = xss.take k ∧ OwnGrid wr w.heap.size xss.length rs ∧ RowsOk wr rs ∧ (∀ r ∈ rs, w.heap.size < r.1 ∧ r.2.1 = r.2.2.length) ∧ (rs.map (fun r : R3 => r.1)).Nodup ∧ Below w.heap.size w wr) (fun i _ => xss.length - (intOf i).toNat)
    case atStart => exact ⟨0, [], Nat.zero_le _, rfl, by simp, hO.out, fun r hr => (by simp at hr), fun r hr => (by simp at hr), by simp, bA (Below.refl _ _) _⟩
    case round =>
      clear hO hmk
      obtain ⟨k, rs, hk, rfl, hm, ho, hro, hlt', hnd, hb⟩ := hrel
      by_cases hlt : k < xss.length
      · obtain ⟨u, hu, hru⟩ := hr k xss[k] (by simp [hlt])
        have e0 : wr.cell? ⟨g, off + k, none⟩ = some u := (hb.cell (p := ⟨g, off + k, none⟩) hg).trans hu
        have hlen : rs.length = k := by have := congrArg List.length hm; simp at this; omega
        have hxk : xss[k].length ≤ 1048576 := Nat.le_trans (bulk_mem (List.getElem_mem hlt)) hx
        go_wp2_with fail
        refine (toValS_calls u xss[k] _ (hru.of hb) hxk).mono ?_; rintro e w1 ⟨g1, rfl, hg1, ho1, hb1⟩
        have d1 := bT hb hb1
        have hoG := ho.of hb1
        have hN : Hid (OwnGrid (w1.setCell ⟨w.heap.size, k, none⟩ (.slice (some ⟨g1, 0, none⟩) xss[k].length xss[k].length)) w.heap.size xss.length (rs ++ [(g1, xss[k].length, xss[k])])) := by
          have := hoG.push (by omega) (g1, xss[k].length, xss[k])
          rw [hlen] at this
          exact this
        have hgw : w.heap.size < g1 := Nat.lt_of_lt_of_le ho.size hg1
        have hR : Hid (RowsOk (w1.setCell ⟨w.heap.size, k, none⟩ (.slice (some ⟨g1, 0, none⟩) xss[k].length xss[k].length)) (rs ++ [(g1, xss[k].length, xss[k])])) := by
          intro r hr'
          rcases List.mem_append.1 hr' with h | h
          · exact ((hro.of hb1).far (fun r hr => by have := (hlt' r hr).1; omega) _) r h
          · simp at h
            subst h
            exact ⟨ho1.far (by omega) _, Nat.le_refl _⟩
        have hND : Hid ((rs ++ [(g1, xss[k].length, xss[k])]).map (fun r : R3 => r.1)).Nodup := by
          show List.Nodup _
          rw [List.map_append, List.nodup_append]
          refine ⟨hnd, by simp, fun a ha b hb' e => ?_⟩
          simp at hb'
          obtain ⟨r, hr1, hr2⟩ := List.mem_map.1 ha
          have := (hro r hr1).1.size
          omega
        obtain ⟨u0, hu0⟩ := hoG.all k (by omega)
        have hf := hoG.frz
        clear ho hoG hb1
        go_wp2
        go_roundw
        case rel =>
          refine ⟨k + 1, rs ++ [(g1, xss[k].length, xss[k])], by omega, by go_num, ?_, hN.out, hR.out, ?_, hND.out, d1.setCell (Nat.le_refl _) _⟩
          · rw [List.map_append, hm, take_snoc xss k hlt]; rfl
          · intro r hr'
            rcases List.mem_append.1 hr' with h | h
            · exact hlt' r h
            · simp at h
              subst h
              exact ⟨hgw, rfl⟩
        case measure => simp [intOf]; omega
      · obtain rfl : k = xss.length := by omega
        rw [List.take_length] at hm
        go_wp2
        go_ret
        exact ⟨_, rs, rfl, hm, Nat.le_refl _, ho, hro, hlt', hnd, hb⟩
end Go.Proofs.YtnchcndcinpalaaGreatDoor
namespace Go.Proofs.YtnchcndcinpalaaGreatDoor
open Go Go.RowKit
def szA (left : Int) (xss : List (List V2)) : Int := if left < (xss.length : Int) + bulk xss then -1 else left - xss.length - bulk xss
set_option maxHeartbeats 1000000 in
theorem szValSS_calls (v : Value) (xss : List (List V2)) (left : Int) (w : World) (hv : IsRows w v xss) (hl : xss.length ≤ maxLen) (hl2 : ∀ xs ∈ xss, xs.length ≤ maxLen) (h0 : 0 ≤ left) (h1 : left ≤ 1048576) :
    Calls Tryz.prog 92 #[v, .int .i64 left] w fun e w' => e = .returned (.int .i64 (szA left xss)) ∧ w' = w := by
  unfold maxLen at hl
  rcases hv with ⟨rfl, a, cap, rfl⟩ | ⟨g, off, cap, rfl, hg, hr⟩
  · have HE : Hid (szA left [] = left) := by show _ = _; simp [szA, bulk]; omega
    go_enter Tryz.func92, Tryz.ntmps92
    go_wp2
    go_loopw [1, 5] (fun l i wr => l = .int .i64 left ∧ i = .int .i64 0 ∧ wr = w) (fun _ _ _ => 0)
    case atStart => exact ⟨rfl, rfl, rfl⟩
    case round =>
      obtain ⟨rfl, rfl, rfl⟩ := hrel
      go_wp2
      go_ret
      exact ⟨congrArg (fun z => Ending.returned (.int .i64 z)) HE.out.symm, rfl⟩
  · by_cases c : left < (xss.length : Int)
    · have HE : Hid (szA left xss = -1) := by show _ = _; unfold szA; rw [if_pos (by omega)]
      go_enter Tryz.func92, Tryz.ntmps92
      go_wp2
      go_ret
      exact ⟨congrArg (fun z => Ending.returned (.int .i64 z)) HE.out.symm, rfl⟩
    · go_enter Tryz.func92, Tryz.ntmps92
      go_wp2
      go_loopw [1, 5] (fun l i wr => ∃ k : Nat, k ≤ xss.length ∧ i = .int .i64 k ∧ l = .int .i64 (left - xss.length - bulk (xss.take k)) ∧ (bulk (xss.take k) : Int) ≤ left - xss.length ∧ wr = w) (fun _ i _ => xss.length - (intOf i).toNat)
      case atStart => exact ⟨0, Nat.zero_le _, rfl, by simp [bulk], by simp [bulk]; omega, rfl⟩
      case round =>
        obtain ⟨k, hk, rfl, rfl, hbk, rfl⟩ := hrel
        by_cases hlt : k < xss.length
        · obtain ⟨u, hu, hru⟩ := hr k xss[k] (by simp [hlt])
          have hbt := bulk_take xss k hlt
          have hble := bulk_take_le xss (k + 1)
          have SZ := szValS_calls u xss[k] (left - xss.length - bulk (xss.take k)) wr hru (hl2 _ (List.getElem_mem hlt)) (by omega) (by omega)
          have j1 : (k : Int) < (xss.length : Int) := by omega
          by_cases c2 : left - xss.length - bulk (xss.take k) < (xss[k].length : Int)
          · have HE : Hid (szA left xss = -1) := by show _ = _; unfold szA; rw [if_pos (by omega)]
            rw [if_pos c2] at SZ
            have HS := hide SZ
            clear SZ hbt hble
            generalize bulk (xss.take k) = B at *
            go_wp2_with fail
            refine (unhide HS).mono ?_; rintro e w1 ⟨rfl, rfl⟩
            go_wp2
            go_ret
            exact ⟨congrArg (fun z => Ending.returned (.int .i64 z)) HE.out.symm, rfl⟩
          · rw [if_neg c2] at SZ
            have HS := hide SZ
            have HB := hide hbt
            clear SZ hbt hble
            have c3 : ¬ left - xss.length - bulk (xss.take k) - (xss[k].length : Int) < 0 := by omega
            go_wp2_with fail
            refine (unhide HS).mono ?_; rintro e w1 ⟨rfl, rfl⟩
            go_wp2
            go_roundw
            case rel => exact ⟨k + 1, by omega, by go_num, by rw [unhide HB]; congr 1; omega, by rw [unhide HB]; omega, by first | rfl | trivial⟩
            case measure => simp [intOf]; omega
        · obtain rfl : k = xss.length := by omega
          rw [List.take_length] at hbk ⊢
          have HE : Hid (szA left xss = left - xss.length - bulk xss) := by show _ = _; unfold szA; rw [if_neg (by omega)]
          generalize bulk xss = B at *
          go_wp2
          go_ret
          exact ⟨congrArg (fun z => Ending.returned (.int .i64 z)) HE.out.symm, rfl⟩
set_option maxHeartbeats 1000000 in
theorem eqValSS_calls (rs qs : List R3) (G off cap G' off' cap' : Nat) (w : World) (hG : G < w.heap.size) (hG' : G' < w.heap.size) (hx : GridAt w G off rs) (hy : GridAt w G' off' qs) (hrx : RowsOk w rs) (hry : RowsOk w qs) (he : rs.map (fun r : R3 => r.2.2) = qs.map (fun r : R3 => r.2.2)) (b1 : rs.length ≤ 1048576) (b2 : ∀ r ∈ rs, r.2.2.length ≤ 1048576) :
    Calls Tryz.prog 110 #[.slice (some ⟨G, off, none⟩) rs.length cap, .slice (some ⟨G', off', none⟩) qs.length cap'] w fun e w' => e = .returned (.bool true) ∧ Below w.heap.size w w' := by
  have hlen : rs.length = qs.length := by simpa using congrArg List.length he
  rw [← hlen]
  have HL := hide hlen
  clear hlen
  have e0 : ((rs.length : Int) != (rs.length : Int)) = false := by simp
  go_enter Tryz.func110, Tryz.ntmps110
  go_wp2
  go_loopw [5] (fun c wr => ∃ k : Nat, k ≤ rs.length ∧ c = .int .i64 k ∧ Below w.heap.size w wr) (fun c _ => rs.length - (intOf c).toNat)
  case atStart => exact ⟨0, Nat.zero_le _, rfl, Below.refl _ _⟩
  case round =>
    obtain ⟨k, hk1, rfl, hb⟩ := hrel
    by_cases l1 : k < rs.length
    · have l2 : k < qs.length := by rw [← unhide HL]; exact l1
      have x0 := (hx.of hG hb) k rs[k] (by simp [l1])
      have y0 := (hy.of hG' hb) k qs[k] (by simp [l2])
      have hm1 : rs[k] ∈ rs := List.getElem_mem l1
      have hm2 : qs[k] ∈ qs := List.getElem_mem l2
      have ex := (hrx.of (Below.drew hb)) _ hm1
      have ey := (hry.of (Below.drew hb)) _ hm2
      have bx := b2 _ hm1
      have exy : qs[k].2.2 = rs[k].2.2 := by
        have := congrArg (fun l => l[k]?) he
        simp [l1, l2] at this
        exact this.symm
      unfold rv at x0 y0
      generalize rs[k] = r at *
      generalize qs[k] = q at *
      obtain ⟨rg, rc, rx⟩ := r
      obtain ⟨qg, qc, qx⟩ := q
      simp only at exy
      subst exy
      have j1 : (k : Int) < (rs.length : Int) := by omega
      have q1 : G < wr.heap.size := Nat.lt_of_lt_of_le hG hb.size
      have q2 : G' < wr.heap.size := Nat.lt_of_lt_of_le hG' hb.size
      have EQ := fun w h1 h2 h3 h4 => eqValS_calls qx rg 0 rc qg 0 qc w h1 h2 h3 h4 bx
      have HEQ := hide EQ
      clear EQ hm1 hm2
      simp only at x0 y0 ex ey
      have HEX := hide ex; have HEY := hide ey
      clear ex ey bx
      go_upto_region 6 with fail
      have h1 := Below.refl wr.heap.size wr
      have h2 := h1
      go_region_held3 (Std wr) (repeat (first | with_reducible assumption | with_reducible exact Std.refl _ | with_reducible refine Std.drew ?_ | with_reducible refine Std.alloc ?_ _ | with_reducible refine Std.setCell ?_ ?_ _ | with_reducible refine Std.call ?_ (by with_reducible assumption) | (simp <;> omega) | omega)) (first | (go_at_call 126; refine (unhide HEQ _ (unhide HEX).1.size (unhide HEY).1.size (unhide HEX).1.held (unhide HEY).1.held).mono ?_; rintro e w1 ⟨rfl, hb⟩; (first | have n3 := bT h2 hb | have n3 := bT (bA h2 _) hb | have n3 := bT (Below.drew h2) hb | have n3 := bT (Below.drew (bA h2 _)) hb | have n3 := bT (bA (Below.drew h2) _) hb); (first | have n2 := bT h1 hb | have n2 := bT (bA h1 _) hb | have n2 := bT (Below.drew h1) hb | have n2 := bT (Below.drew (bA h1 _)) hb | have n2 := bT (bA (Below.drew h1) _) hb); obtain ⟨c1, f1⟩ := bcell hb; obtain ⟨c2, f2⟩ := bcell n2; obtain ⟨c3, f3⟩ := bcell n3; have hs := hb.size; (try simp at hs); clear h1 h2; have h1 := hb; have h2 := n2; clear n2 hb))
      have d2 := bT hb h2
      go_wp2
      go_roundw
      case rel => exact ⟨k + 1, by omega, by go_num, d2⟩
      case measure => simp [intOf]; omega
    · go_wp2
      go_ret
      exact ⟨rfl, hb⟩
end Go.Proofs.YtnchcndcinpalaaGreatDoor
namespace Go.Proofs.YtnchcndcinpalaaGreatDoor
open Go Go.RowKit
theorem make_tables (n : Nat) (hn : n ≤ 1048576) (w : World) :
    (Instr.makeSlice 36 (.int .i64 (n : Int)) (.int .i64 (n : Int))).run Tryz.prog w = .ok (.slice (some ⟨w.heap.size, 0, none⟩) n n) (w.alloc (.cells (madeCells #[.string ByteArray.empty, .int .i64 0, .slice none 0 0] (n * 3)) 112)) := by
  obtain ⟨i, hi, hz⟩ := Option.map_eq_some_iff.1 (show (Tryz.prog.info? 112).map (fun i => (i.zero, i.size, i.bytes)) = some (some (.agg #[.string ByteArray.empty, .int .i64 0, .slice none 0 0]), 3, 48) by kernel_rfl)
  simp only [Prod.mk.injEq] at hz
  have := run_make (P := Tryz.prog) w 36 112 i _ Tryz.underlying36 hi hz.1 .i64 .i64 (n : Int) (n : Int) (by omega) (by omega) (by rw [hz.2.2]; omega) (by omega)
  rw [hz.2.1] at this
  simpa [Value.cells] using this
theorem make_tables0 (w : World) : (Instr.makeSlice 36 (.int .i64 0) (.int .i64 0)).run Tryz.prog w = .ok (.slice (some ⟨w.heap.size, 0, none⟩) 0 0) (w.alloc (.cells #[] 112)) := by
  have := make_tables 0 (by omega) w
  rw [show madeCells #[.string ByteArray.empty, .int .i64 0, .slice none 0 0] (0 * 3) = #[] from Array.eq_empty_of_size_eq_zero (by simp [size_madeCells])] at this
  simpa using this
theorem isRows_slice {w : World} {v : Value} {xss : List (List V2)} (hv : IsRows w v xss) : ∃ a cap, v = .slice a xss.length cap := by
  rcases hv with ⟨rfl, a, cap, rfl⟩ | ⟨g, off, cap, rfl, _⟩
  · exact ⟨a, cap, rfl⟩
  · exact ⟨_, cap, rfl⟩
theorem isTables_slice {w : World} {v : Value} {ts : List Tb} (hv : IsTables w v ts) : ∃ a cap, v = .slice a ts.length cap := by
  rcases hv with ⟨rfl, a, cap, rfl⟩ | ⟨g, off, cap, rfl, _⟩
  · exact ⟨a, cap, rfl⟩
  · exact ⟨_, cap, rfl⟩
end Go.Proofs.YtnchcndcinpalaaGreatDoor
