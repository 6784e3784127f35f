import Derived.Test.YtnchcndcinpalaaGreatDoorQ22
import Derived.Test.YtnchcndcinpalaaGreatDoorQ17
/-
  MARKS in flat plans, looked at.
-/
namespace Go.Proofs.YtnchcndcinpalaaGreatDoor
open Go Go.RowKit

set_option maxRecDepth 100000 in
set_option maxHeartbeats 4000000 in
theorem heldFNodeS_calls (fs : List Fn) (v : Value) (k : Nat) (w : World) (h : IsFns w v (mFns k fs)) (b1 : fs.length ≤ 1048576) (b2 : ∀ p ∈ fs, p.Ex.length ≤ 1048576 ∧ p.Exs.length ≤ 1048576 ∧ ∀ xs ∈ p.Exs, xs.length ≤ 1048576) (bk : k + kNs fs ≤ 536870912) :
    Calls Tryz.prog 41 #[v, .int .i64 k] w fun e w' => e = .returned (.int .i64 ((k + kNs fs : Nat) : Int)) ∧ Below w.heap.size w w' := by
  rcases h with ⟨h0, a, c, rfl⟩ | ⟨g, off, c, rfl, hg, ho⟩
  · obtain rfl : fs = [] := by have := mFns_length k fs; rw [h0] at this; exact List.eq_nil_of_length_eq_zero (by simpa using this.symm)
    clear h0 b2
    go_enter Tryz.func41, Tryz.ntmps41
    go_wp2
    go_loopw [1, 5] (fun c s wr => s = .int .i64 0 ∧ c = .int .i64 (k : Int) ∧ wr = w) (fun _ _ _ => 0)
    case atStart => exact ⟨rfl, rfl, rfl⟩
    case round =>
      obtain ⟨rfl, rfl, rfl⟩ := hrel
      go_wp2
      go_ret
      exact ⟨by simp [kNs], Below.refl _ _⟩
  · rw [mFns_length]
    have HO := hide ho; have HB2 := hide b2
    clear ho b2
    go_enter Tryz.func41, Tryz.ntmps41
    go_wp2
    go_loopw [1, 5] (fun c s wr => ∃ i : Nat, i ≤ fs.length ∧ s = .int .i64 i ∧ c = .int .i64 ((k + kNs (fs.take i) : Nat) : Int) ∧ Below w.heap.size w wr) (fun _ s _ => fs.length - (intOf s).toNat)
    case atStart => exact ⟨0, Nat.zero_le _, rfl, by simp [kNs], Below.refl _ _⟩
    case round =>
      obtain ⟨i, hi, rfl, rfl, hb⟩ := hrel
      by_cases hlt : i < fs.length
      · have j1 : (i : Int) < (fs.length : Int) := by omega
        obtain ⟨a0, a1, a2, a3, a6, a7, ⟨u, a4, hu⟩, u', a5, hu'⟩ := unhide HO i _ (mFns_at k fs i hlt)
        obtain ⟨x1, x2, x3⟩ := unhide HB2 _ (List.getElem_mem hlt)
        have hk1 := kNs_take fs i hlt
        have hk2 := kNs_take_le fs (i + 1)
        obtain ⟨j, hj⟩ : ∃ j, j = k + kNs (fs.take i) := ⟨_, rfl⟩
        rw [← hj] at a0 a1 a2 a3 a6 a7 hu hu' ⊢
        have hkN : kN fs[i] = 6 + 2 * (fs[i]).Ex.length + 2 * bulkO (fs[i]).Exs := rfl
        have hjb : j + kN fs[i] ≤ 536870912 := by omega
        have HK1 : Hid (k + kNs (fs.take (i + 1)) = j + kN fs[i]) := by show _ = _; omega
        clear hj hk1 hk2
        generalize fs[i] = p at *
        simp only [mFn] at a0 a1 a2 a3 a6 a7 hu hu'
        have c0 := (hb.cell (p := ⟨g, off + i * 8, none⟩) hg).trans a0
        have c1 := (hb.cell (p := ⟨g, off + i * 8 + 1, none⟩) hg).trans a1
        have c2 := (hb.cell (p := ⟨g, off + i * 8 + 2, none⟩) hg).trans a2
        have c3 := (hb.cell (p := ⟨g, off + i * 8 + 3, none⟩) hg).trans a3
        have c4 := (hb.cell (p := ⟨g, off + i * 8 + 4, none⟩) hg).trans a4
        have c5 := (hb.cell (p := ⟨g, off + i * 8 + 5, none⟩) hg).trans a5
        have c6 := (hb.cell (p := ⟨g, off + i * 8 + 6, none⟩) hg).trans a6
        have c7 := (hb.cell (p := ⟨g, off + i * 8 + 7, none⟩) hg).trans a7
        have q1 : g < wr.heap.size := Nat.lt_of_lt_of_le hg hb.size
        have HM4 : Hid (∀ kz : Int, kz = ((j + 4 : Nat) : Int) → Calls Tryz.prog 77 #[u, .int .i64 kz] wr fun e w' => e = .returned (.int .i64 ((j + 4 + 2 * p.Ex.length : Nat) : Int)) ∧ Below wr.heap.size wr w') := fun kz hkz => by
          subst hkz
          exact heldOpS_calls p.Ex.length u (j + 4) wr (hu.of hb) x1 (by omega)
        have HM5 : Hid (∀ W (hW : Below wr.heap.size wr W) (kz : Int), kz = ((j + 4 + 2 * p.Ex.length : Nat) : Int) → Calls Tryz.prog 78 #[u', .int .i64 kz] W fun e w' => e = .returned (.int .i64 ((j + 4 + 2 * p.Ex.length + 2 * bulkO p.Exs : Nat) : Int)) ∧ Below W.heap.size W w') := fun W hW kz hkz => by
          subst hkz
          exact heldOpSS_calls p.Exs u' (j + 4 + 2 * p.Ex.length) W ((hu'.of hb).of hW) x2 x3 (by omega)
        obtain ⟨ua, uc, hua⟩ := isOps_slice hu
        obtain ⟨ua', uc', hua'⟩ := isOpss_slice hu'
        rw [mOps_length] at hua
        rw [mOpss_length] at hua'
        subst hua hua'
        have e0 : ((j : Int) != (j : Int)) = false := by simp
        have e1 : (((j : Int) + 1) != ((j : Int) + 1)) = false := by simp
        have e2 : (((j : Int) + 2) != ((j : Int) + 1 + 1)) = false := by simp; omega
        have e3 : (((j : Int) + 3) != ((j : Int) + 1 + 1 + 1)) = false := by simp; omega
        clear a0 a1 a2 a3 a4 a5 a6 a7 hu hu' HO HB2
        go_wp2_with fail
        refine (unhide HM4 _ (by push_cast; omega)).mono ?_; rintro e w1 ⟨rfl, hb1⟩
        have d1 := bT hb hb1
        have g5 := (hb1.cell (p := ⟨g, off + i * 8 + 5, none⟩) q1).trans c5
        have g6 := (hb1.cell (p := ⟨g, off + i * 8 + 6, none⟩) q1).trans c6
        have g7 := (hb1.cell (p := ⟨g, off + i * 8 + 7, none⟩) q1).trans c7
        have q2 : g < w1.heap.size := Nat.lt_of_lt_of_le q1 hb1.size
        have HM6 := hide (unhide HM5 w1 hb1)
        clear HM4 HM5 hb1 c0 c1 c2 c3 c4 c5 c6 c7
        obtain ⟨j5, hj5⟩ : ∃ j5, j5 = j + 4 + 2 * p.Ex.length := ⟨_, rfl⟩
        rw [← hj5] at HM6 g6 g7 ⊢
        have j5b : j5 ≤ 536870912 := by omega
        have j5n : ¬ (j5 : Int) < 0 := by omega
        have HJ5 := hide hj5
        clear hj5
        go_wp2_with fail
        refine (unhide HM6 _ rfl).mono ?_; rintro e w2 ⟨rfl, hb2⟩
        have d2 := bT d1 hb2
        have i6 := (hb2.cell (p := ⟨g, off + i * 8 + 6, none⟩) q2).trans g6
        have i7 := (hb2.cell (p := ⟨g, off + i * 8 + 7, none⟩) q2).trans g7
        have q3 : g < w2.heap.size := Nat.lt_of_lt_of_le q2 hb2.size
        clear HM6 hb2 g5 g6 g7
        obtain ⟨j6, hj6⟩ : ∃ j6, j6 = j5 + 2 * bulkO p.Exs := ⟨_, rfl⟩
        rw [← hj6] at i6 i7 ⊢
        have j6b : j6 ≤ 536870912 := by have := unhide HJ5; omega
        have j6n : ¬ (j6 : Int) < 0 := by omega
        have HK6 : Hid (k + kNs (fs.take (i + 1)) = j6 + 1 + 1) := by show _ = _; have := unhide HK1; have := unhide HJ5; omega
        have e6 : ((j6 : Int) != (j6 : Int)) = false := by simp
        have e7 : (((j6 : Int) + 1) != ((j6 : Int) + 1)) = false := by simp
        clear hj6 HJ5 HK1
        go_wp2
        go_roundw
        case rel => exact ⟨i + 1, by omega, by go_num, by rw [unhide HK6]; go_num, d2⟩
        case measure => simp [intOf]; omega
      · obtain rfl : i = fs.length := by omega
        rw [List.take_length]
        go_wp2
        go_ret
        exact ⟨rfl, hb⟩

theorem markFlat_calls (fs : List Fn) (Rt : Int) (lab : Lb) (G cap k : Nat) (w : World) (h : FlM w lab G fs) (b1 : fs.length ≤ 1048576) (b2 : ∀ p ∈ fs, p.Ex.length ≤ 1048576 ∧ p.Exs.length ≤ 1048576 ∧ ∀ xs ∈ p.Exs, xs.length ≤ 1048576) (bk : k + kNs fs ≤ 536870912) :
    Calls Tryz.prog 13 #[.agg #[.slice (some ⟨G, 0, none⟩) fs.length cap, .int .i64 Rt], .int .i64 k] w fun e w' => e = .returned (.int .i64 ((k + kNs fs : Nat) : Int)) ∧ FlM w' lab G (mFns k fs) ∧ ButM (fun b => (lab b).1 ≤ 3) w w' := by
  have HM := hide (fun W (hb : Below w.heap.size w W) => markFNodeS_calls fs lab G cap k W (h.of hb) b1 b2 bk)
  clear h b2
  go_enter Tryz.func13, Tryz.ntmps13
  go_wp2_with fail
  refine (unhide HM _ (bA (Below.refl _ _) _)).mono ?_; rintro e w1 ⟨rfl, hF, hB⟩
  have HF := hide hF
  have HB := hide ((ButM.ofBelow (S := fun b => (lab b).1 ≤ 3) (bA (Below.refl w.heap.size w) (.cells #[.slice (some ⟨G, 0, none⟩) fs.length cap, .int .i64 Rt] 32))).trans hB)
  clear hF hB HM
  go_wp2
  go_ret
  exact ⟨rfl, unhide HF, unhide HB⟩
theorem markFlat_nil (a : Option Addr) (Rt : Int) (cap k : Nat) (w : World) :
    Calls Tryz.prog 13 #[.agg #[.slice a 0 cap, .int .i64 Rt], .int .i64 k] w fun e w' => e = .returned (.int .i64 (k : Int)) ∧ Below w.heap.size w w' := by
  have HM : Hid (∀ W, Calls Tryz.prog 39 #[.slice a 0 cap, .int .i64 (k : Int)] W fun e w' => e = .returned (.int .i64 (k : Int)) ∧ w' = W) := fun W => by
    go_enter Tryz.func39, Tryz.ntmps39
    go_wp2
    go_loopw [1, 5] (fun c s wr => s = .int .i64 0 ∧ c = .int .i64 (k : Int) ∧ wr = W) (fun _ _ _ => 0)
    case atStart => exact ⟨rfl, rfl, rfl⟩
    case round =>
      obtain ⟨rfl, rfl, rfl⟩ := hrel
      go_wp2
      go_ret
      exact ⟨rfl, rfl⟩
  go_enter Tryz.func13, Tryz.ntmps13
  go_wp2_with fail
  refine (unhide HM _).mono ?_; rintro e w1 ⟨rfl, rfl⟩
  go_wp2
  go_ret
  exact ⟨rfl, bA (Below.refl _ _) _⟩
theorem heldFlat_calls (fs : List Fn) (v : Value) (Rt : Int) (k : Nat) (w : World) (h : IsFns w v (mFns k fs)) (b1 : fs.length ≤ 1048576) (b2 : ∀ p ∈ fs, p.Ex.length ≤ 1048576 ∧ p.Exs.length ≤ 1048576 ∧ ∀ xs ∈ p.Exs, xs.length ≤ 1048576) (bk : k + kNs fs ≤ 536870912) :
    Calls Tryz.prog 15 #[.agg #[v, .int .i64 Rt], .int .i64 k] w fun e w' => e = .returned (.int .i64 ((k + kNs fs : Nat) : Int)) ∧ Below w.heap.size w w' := by
  have HM := hide (fun W (hb : Below w.heap.size w W) => heldFNodeS_calls fs v k W (h.of hb) b1 b2 bk)
  obtain ⟨a, c, rfl⟩ := isFns_slice h
  clear h b2
  have hkn : ¬ ((k + kNs fs : Nat) : Int) < 0 := by omega
  go_enter Tryz.func15, Tryz.ntmps15
  go_wp2_with fail
  refine (unhide HM _ (bA (Below.refl _ _) _)).mono ?_; rintro e w1 ⟨rfl, hb1⟩
  have d1 := bT (bA (Below.refl w.heap.size w) _) hb1
  clear hb1 HM
  go_wp2
  go_ret
  exact ⟨rfl, d1⟩
end Go.Proofs.YtnchcndcinpalaaGreatDoor
/-
  COPIES OF FLAT PLANS that share nothing.
-/
namespace Go.Proofs.YtnchcndcinpalaaGreatDoor
open Go Go.RowKit

/-- lists of Ops in blocks behind G, told apart by lb -/
def OssM (w : World) (G : Nat) (lb : Nat → Nat) (oss : List (List O2)) : Prop := ∀ i xs, oss[i]? = some xs → ∃ u, w.cell? ⟨G, i, none⟩ = some u ∧ OpsM w u xs (fun b => G < b ∧ lb b = i)
theorem OssM.nil (w : World) (G : Nat) (lb : Nat → Nat) : OssM w G lb [] := fun i xs hx => by simp at hx
theorem OssM.of {w w1 : World} {G : Nat} {lb : Nat → Nat} {oss : List (List O2)} (h : OssM w G lb oss) (hG : G < w.heap.size) (hb : Below w.heap.size w w1) : OssM w1 G lb oss := fun i xs hx => by
  obtain ⟨u, hu, hr⟩ := h i xs hx
  exact ⟨u, (hb.cell (p := ⟨G, i, none⟩) hG).trans hu, hr.of hb⟩
theorem OssM.far {w : World} {G : Nat} {lb : Nat → Nat} {oss : List (List O2)} (h : OssM w G lb oss) {X O : Nat} (hX : X < G) (v : Value) : OssM (w.setCell ⟨X, O, none⟩ v) G lb oss := fun i xs hx => by
  obtain ⟨u, hu, hr⟩ := h i xs hx
  exact ⟨u, by rw [setCell_farN (by omega)]; exact hu, hr.but (ButM.set (S := fun b => b = X) (ButM.refl _ _) rfl v) (fun b hb e => by have := hb.1; omega)⟩
theorem OssM.put {wr w1 : World} {G k g1 : Nat} {lb : Nat → Nat} {oss : List (List O2)} (h : OssM wr G lb (oss.take k)) (hG : G < wr.heap.size) (hk : k < oss.length) (hb1 : Below wr.heap.size wr w1) (hg1 : wr.heap.size ≤ g1) (ho1 : OwnOps w1 g1 (oss[k]).length oss[k]) (hall : ∃ v, w1.cell? ⟨G, k, none⟩ = some v) :
    OssM (w1.setCell ⟨G, k, none⟩ (.slice (some ⟨g1, 0, none⟩) (oss[k]).length (oss[k]).length)) G (fun b => if b = g1 then k else lb b) (oss.take (k + 1)) := fun i xs hx => by
  have hBt : ButM (fun b => b = G) w1 (w1.setCell ⟨G, k, none⟩ (.slice (some ⟨g1, 0, none⟩) (oss[k]).length (oss[k]).length)) := ButM.set (S := fun b => b = G) (ButM.refl _ _) rfl _
  rw [take_snocN oss k hk] at hx
  have hl : (oss.take k).length = k := by simp; omega
  by_cases hi : i < k
  · rw [List.getElem?_append_left (by omega)] at hx
    obtain ⟨u, hu, hr⟩ := h i xs hx
    refine ⟨u, by rw [setCell_otherN (by omega)]; exact (hb1.cell (p := ⟨G, i, none⟩) hG).trans hu, ?_⟩
    have h1 := hr.mono (T := fun b => G < b ∧ (if b = g1 then k else lb b) = i) (fun b hb hs => ⟨hs.1, by rw [if_neg (by omega)]; exact hs.2⟩)
    exact (h1.of hb1).but hBt (fun b hb e => by have := hb.1; omega)
  · obtain rfl : i = k := by
      have := (List.getElem?_eq_some_iff.1 hx).1
      simp at this; omega
    rw [List.getElem?_append_right (by omega)] at hx
    simp [hl] at hx
    subst hx
    obtain ⟨v, hv⟩ := hall
    exact ⟨_, World.cell?_setCell_same _ _ _ hv, Or.inr ⟨g1, _, rfl, Nat.le_refl _, ⟨by omega, by simp⟩, ho1.butM hBt (by omega)⟩⟩

set_option maxHeartbeats 1000000 in
theorem toOpSS_M (v : Value) (oss : List (List O2)) (w : World) (hv : IsOpss w v oss) (hn : oss.length ≤ 1048576) (hx : bulkO oss ≤ 1048576) :
    Calls Tryz.prog 99 #[v] w fun e w' => ∃ (G : Nat) (lb : Nat → Nat), e = .returned (.slice (some ⟨G, 0, none⟩) oss.length oss.length) ∧ w.heap.size ≤ G ∧ OwnOpss w' G oss.length oss ∧ OssM w' G lb oss ∧ Below w.heap.size w w' := by
  rcases hv with ⟨rfl, a, cap, rfl⟩ | ⟨g, off, cap, rfl, hg, hr⟩
  · have hmk := make_opss0
    clear hn hx
    go_enter Tryz.func99, Tryz.ntmps99
    go_wp2
    go_loopw [4] (fun i wr => i = .int .i64 0 ∧ OwnOpss wr w.heap.size 0 [] ∧ Below w.heap.size w wr) (fun _ _ => 0)
    case atStart => exact ⟨rfl, OwnOpss.made w 0 #[] _ rfl, bA (Below.refl _ _) _⟩
    case round =>
      obtain ⟨rfl, ho, hb⟩ := hrel
      go_wp2
      go_ret
      exact ⟨_, fun _ => 0, rfl, Nat.le_refl _, ho, OssM.nil _ _ _, hb⟩
  · have hmk := make_opss oss.length hn
    have hO : Hid (OwnOpss (w.alloc (.cells (madeCells #[.slice none 0 0] oss.length) 64)) w.heap.size oss.length []) := OwnOpss.made w _ _ _ (by simp [size_madeCells])
    have HR := hide hr
    clear hr
    go_enter Tryz.func99, Tryz.ntmps99
    go_wp2
    go_loopw [4] (fun i wr => ∃ k : Nat, k ≤ oss.length ∧ i = .int .i64 k ∧ OwnOpss wr w.heap.size oss.length (oss.take k) ∧ (∃ lb : Nat → Nat, OssM wr w.heap.size lb (oss.take k)) ∧ Below w.heap.size w wr) (fun i _ => oss.length - (intOf i).toNat)
    case atStart => exact ⟨0, Nat.zero_le _, rfl, by simpa using hO.out, ⟨fun _ => 0, by rw [List.take_zero]; exact OssM.nil _ _ _⟩, bA (Below.refl _ _) _⟩
    case round =>
      clear hO hmk
      obtain ⟨k, hk, rfl, ho, ⟨lb, hl⟩, hb⟩ := hrel
      by_cases hlt : k < oss.length
      · obtain ⟨u, hu, hru⟩ := (unhide HR) k oss[k] (List.getElem?_eq_getElem hlt)
        have e0 : wr.cell? ⟨g, off + k, none⟩ = some u := (hb.cell (p := ⟨g, off + k, none⟩) hg).trans hu
        have hxk : oss[k].length ≤ 1048576 := Nat.le_trans (bulkO_mem (List.getElem_mem hlt)) hx
        have q1 : g < wr.heap.size := Nat.lt_of_lt_of_le hg hb.size
        have HO := hide ho; have HL := hide hl
        clear ho hl
        go_wp2_with fail
        refine (toOpS_calls u oss[k] _ (hru.of hb) hxk).mono ?_; rintro e w1 ⟨g1, rfl, hg1, ho1, hb1⟩
        have d1 := bT hb hb1
        have hoG := (unhide HO).of hb1
        have HL2 := hide ((unhide HL).put (unhide HO).size hlt hb1 hg1 ho1 (hoG.all k hlt))
        have hN := hide (hoG.put hlt hlt g1 (Nat.lt_of_lt_of_le (unhide HO).size hg1) ho1.size ho1.held)
        obtain ⟨u0, hu0⟩ := hoG.all k hlt
        have hf := hoG.frz
        clear hoG hb1 HO HL ho1 hg1 e0
        go_wp2
        go_roundw
        case rel => exact ⟨k + 1, by omega, by go_num, unhide hN, ⟨_, unhide HL2⟩, d1.setCell (Nat.le_refl _) _⟩
        case measure => simp [intOf]; omega
      · obtain rfl : k = oss.length := by omega
        rw [List.take_length] at ho hl
        go_wp2
        go_ret
        exact ⟨_, lb, rfl, Nat.le_refl _, ho, hl, hb⟩

set_option maxHeartbeats 2000000 in
theorem toFNode_M (K T M Wd L R : Int) (v v' : Value) (xs : List O2) (oss : List (List O2)) (w : World) (hv : IsOps w v xs) (hv' : IsOpss w v' oss) (hn : xs.length ≤ 1048576) (hn' : oss.length ≤ 1048576) (hx : bulkO oss ≤ 1048576) :
    Calls Tryz.prog 61 #[.agg #[.int .i64 K, .int .i64 T, .int .i64 M, .int .i64 Wd, v, v', .int .i64 L, .int .i64 R]] w fun e w' => ∃ (b b' : Nat) (lb : Nat → Nat), e = .returned (.agg #[.int .i64 K, .int .i64 T, .int .i64 M, .int .i64 Wd, .slice (some ⟨b, 0, none⟩) xs.length xs.length, .slice (some ⟨b', 0, none⟩) oss.length oss.length, .int .i64 L, .int .i64 R]) ∧
      w.heap.size ≤ b ∧ b < b' ∧ b' < w'.heap.size ∧ OwnOps w' b xs.length xs ∧ OpssAt w' b' oss ∧ OssM w' b' lb oss ∧ Below w.heap.size w w' := by
  have TI := fun W (hb : Below w.heap.size w W) => toOpS_calls v xs W (hv.of hb) hn
  have TJ := fun W (hb : Below w.heap.size w W) => toOpSS_M v' oss W (hv'.of hb) hn' hx
  have HT := hide TI; have HJ := hide TJ
  obtain ⟨a, cap, rfl⟩ := isOps_slice hv
  obtain ⟨a', cap', rfl⟩ := isOpss_slice hv'
  clear TI TJ hv hv'
  go_enter Tryz.func61, Tryz.ntmps61
  go_wp2_with fail
  refine (unhide HT _ (by (repeat (first | exact Below.refl _ _ | refine bA ?_ _ | refine Below.setCell ?_ (by simp <;> omega) _)))).mono ?_; rintro e w1 ⟨b, rfl, hb0, ho, hb1⟩
  obtain ⟨hc, hf⟩ := bcell hb1
  have hs1 : w.heap.size + 3 ≤ w1.heap.size := by have := hb1.size; simpa using this
  have hbb : w.heap.size + 3 ≤ b := by simpa using hb0
  have d1 : Below w.heap.size w w1 := bT (by (repeat (first | exact Below.refl _ _ | refine bA ?_ _))) hb1
  have HO := hide ho
  clear ho hb1 hb0
  go_wp2_with fail
  refine (unhide HJ _ (d1.setCell (by dsimp only; omega) _)).mono ?_; rintro e w2 ⟨b', lb, rfl, hb0', ho', hol, hb2⟩
  have hs2 : w1.heap.size ≤ w2.heap.size := by have := hb2.size; simpa using this
  have hbb' : w1.heap.size ≤ b' := by simpa using hb0'
  obtain ⟨hc2, hf2⟩ := bcell hb2
  simp only [World.size_setCell] at hc2 hf2
  have d2 : Below w.heap.size w w2 := bT (d1.setCell (by dsimp only; omega) _) hb2
  have hO2 : OwnOps w2 b xs.length xs := ((unhide HO).butM (ButM.set (S := fun x => x = w.heap.size + 1 + 1) (ButM.refl _ _) rfl _) (by omega)).of hb2
  have hsb : b < w1.heap.size := (unhide HO).size
  have HO2 := hide hO2; have HP := hide ho'.held; have HD := hide d2; have HOl := hide hol
  have hsb' := ho'.size
  have z1 : w.heap.size < w1.heap.size := by omega
  have z2 : w.heap.size + 1 < w1.heap.size := by omega
  have z3 : w.heap.size + 1 + 1 < w1.heap.size := by omega
  clear hO2 ho' d2 d1 hb2 HO hb0' hol
  go_wp2
  refine bodyPost_ret (v := .agg #[.int .i64 K, .int .i64 T, .int .i64 M, .int .i64 Wd, .slice (some ⟨b, 0, none⟩) xs.length xs.length, .slice (some ⟨b', 0, none⟩) oss.length oss.length, .int .i64 L, .int .i64 R]) (by simp [results, Tryz.results61, go_sem, hc, hc2, z2]) rfl ⟨b, b', lb, rfl, by omega, by omega, by simpa using hsb', ?_, ?_, ?_, ?_⟩
  · (repeat (refine OwnOps.butM ?_ (ButM.set (S := fun x => x < w.heap.size + 3) (ButM.refl _ _) (by omega) _) (by omega)))
    exact unhide HO2
  · (repeat (refine OpssAt.far ?_ (by omega) _))
    exact unhide HP
  · (repeat (refine OssM.far ?_ (by omega) _))
    exact unhide HOl
  · (repeat (refine Below.setCell ?_ (by dsimp only; omega) _))
    exact unhide HD
end Go.Proofs.YtnchcndcinpalaaGreatDoor
