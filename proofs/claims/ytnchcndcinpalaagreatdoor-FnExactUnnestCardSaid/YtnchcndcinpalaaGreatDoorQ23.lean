import Derived.Test.YtnchcndcinpalaaGreatDoorQ13
import Derived.Test.YtnchcndcinpalaaGreatDoorQ22
import Derived.Test.YtnchcndcinpalaaGreatDoorQ2
import Derived.Test.YtnchcndcinpalaaGreatDoorQ7
import Derived.OwnWalk
import Derived.Test.YtnchcndcinpalaaGreatDoorQ12
namespace Go.Proofs.YtnchcndcinpalaaGreatDoor
open Go Go.RowKit
set_option maxRecDepth 100000 in
set_option maxHeartbeats 4000000 in
theorem heldFNodeS_calls (fs : List Fn) (v : Value) (k : Nat) (w : World) (h : IsFns w v (mFns k fs)) (b1 : fs.length ≤ 1048576) (b2 : ∀ p ∈ fs, p.Ex.length ≤ 1048576 ∧ p.Exs.length ≤ 1048576 ∧ ∀ xs ∈ p.Exs, xs.length ≤ 1048576) (bk : k + kNs fs ≤ 536870912) :
    Calls Tryz.prog 41 #[v, .int .i64 k] w fun e w' => e = .returned (.int .i64 ((k + kNs fs : Nat) : Int)) ∧ Below w.heap.size w w' := by
  rcases h with ⟨h0, a, c, rfl⟩ | ⟨g, off, c, rfl, hg, ho⟩
  · obtain rfl : fs = [] := by have := mFns_length k fs; rw [h0] at this; exact List.eq_nil_of_length_eq_zero (by simpa using this.symm)
    clear h0 b2
    go_enter Tryz.func41, Tryz.ntmps41
    go_wp2
    go_loopw [1, 5] (fun c s wr => s = .int .i64 0 ∧ c = .int .i64 (k : Int) ∧ wr = w) (fun _ _ _ => 0)
    case atStart => exact ⟨rfl, rfl, rfl⟩
    case round =>
      obtain ⟨rfl, rfl, rfl⟩ := hrel
      go_wp2
      go_ret
      exact ⟨by simp [kNs], Below.refl _ _⟩
  · rw [mFns_length]
    have HO := hide ho; have HB2 := hide b2
    clear ho b2
    go_enter Tryz.func41, Tryz.ntmps41
    go_wp2
    go_loopw [1, 5] (fun c s wr => ∃ i : Nat, i ≤ fs.length ∧ s = .int .i64 i ∧ c = .int .i64 ((k + kNs (fs.take i) : Nat) : Int) ∧ Below w.heap.size w wr) (fun _ s _ => fs.length - (intOf s).toNat)
    case atStart => exact ⟨0, Nat.zero_le _, rfl, by simp [kNs], Below.refl _ _⟩
    case round =>
      obtain ⟨i, hi, rfl, rfl, hb⟩ := hrel
      by_cases hlt : i < fs.length
      · have j1 : (i : Int) < (fs.length : Int) := by omega
        obtain ⟨a0, a1, a2, a3, a6, a7, ⟨u, a4, hu⟩, u', a5, hu'⟩ := unhide HO i _ (mFns_at k fs i hlt)
        obtain ⟨x1, x2, x3⟩ := unhide HB2 _ (List.getElem_mem hlt)
        have hk1 := kNs_take fs i hlt
        have hk2 := kNs_take_le fs (i + 1)
        obtain ⟨j, hj⟩ : ∃ j, j = k + kNs (fs.take i) := ⟨_, rfl⟩
        rw [← hj] at a0 a1 a2 a3 a6 a7 hu hu' ⊢
        have hkN : kN fs[i] = 6 + 2 * (fs[i]).Ex.length + 2 * bulkO (fs[i]).Exs := rfl
        have hjb : j + kN fs[i] ≤ 536870912 := by omega
        have HK1 : Hid (k + kNs (fs.take (i + 1)) = j + kN fs[i]) := by show _ = _; omega
        clear hj hk1 hk2
        generalize fs[i] = p at *
        simp only [mFn] at a0 a1 a2 a3 a6 a7 hu hu'
        have c0 := (hb.cell (p := ⟨g, off + i * 8, none⟩) hg).trans a0
        have c1 := (hb.cell (p := ⟨g, off + i * 8 + 1, none⟩) hg).trans a1
        have c2 := (hb.cell (p := ⟨g, off + i * 8 + 2, none⟩) hg).trans a2
        have c3 := (hb.cell (p := ⟨g, off + i * 8 + 3, none⟩) hg).trans a3
        have c4 := (hb.cell (p := ⟨g, off + i * 8 + 4, none⟩) hg).trans a4
        have c5 := (hb.cell (p := ⟨g, off + i * 8 + 5, none⟩) hg).trans a5
        have c6 := (hb.cell (p := ⟨g, off + i * 8 + 6, none⟩) hg).trans a6
        have c7 := (hb.cell (p := ⟨g, off + i * 8 + 7, none⟩) hg).trans a7
        have q1 : g < wr.heap.size := Nat.lt_of_lt_of_le hg hb.size
        have HM4 : Hid (∀ kz : Int, kz = ((j + 4 : Nat) : Int) → Calls Tryz.prog 77 #[u, .int .i64 kz] wr fun e w' => e = .returned (.int .i64 ((j + 4 + 2 * p.Ex.length : Nat) : Int)) ∧ Below wr.heap.size wr w') := fun kz hkz => by
          subst hkz
          exact heldOpS_calls p.Ex.length u (j + 4) wr (hu.of hb) x1 (by omega)
        have HM5 : Hid (∀ W (hW : Below wr.heap.size wr W) (kz : Int), kz = ((j + 4 + 2 * p.Ex.length : Nat) : Int) → Calls Tryz.prog 78 #[u', .int .i64 kz] W fun e w' => e = .returned (.int .i64 ((j + 4 + 2 * p.Ex.length + 2 * bulkO p.Exs : Nat) : Int)) ∧ Below W.heap.size W w') := fun W hW kz hkz => by
          subst hkz
          exact heldOpSS_calls p.Exs u' (j + 4 + 2 * p.Ex.length) W ((hu'.of hb).of hW) x2 x3 (by omega)
        obtain ⟨ua, uc, hua⟩ := isOps_slice hu
        obtain ⟨ua', uc', hua'⟩ := isOpss_slice hu'
        rw [mOps_length] at hua
        rw [mOpss_length] at hua'
        subst hua hua'
        have e0 : ((j : Int) != (j : Int)) = false := by simp
        have e1 : (((j : Int) + 1) != ((j : Int) + 1)) = false := by simp
        have e2 : (((j : Int) + 2) != ((j : Int) + 1 + 1)) = false := by simp; omega
        have e3 : (((j : Int) + 3) != ((j : Int) + 1 + 1 + 1)) = false := by simp; omega
        clear a0 a1 a2 a3 a4 a5 a6 a7 hu hu' HO HB2
        go_wp2_with fail
        refine (unhide HM4 _ (by push_cast; omega)).mono ?_; rintro e w1 ⟨rfl, hb1⟩
        have d1 := bT hb hb1
        have g5 := (hb1.cell (p := ⟨g, off + i * 8 + 5, none⟩) q1).trans c5
        have g6 := (hb1.cell (p := ⟨g, off + i * 8 + 6, none⟩) q1).trans c6
        have g7 := (hb1.cell (p := ⟨g, off + i * 8 + 7, none⟩) q1).trans c7
        have q2 : g < w1.heap.size := Nat.lt_of_lt_of_le q1 hb1.size
        have HM6 := hide (unhide HM5 w1 hb1)
        clear HM4 HM5 hb1 c0 c1 c2 c3 c4 c5 c6 c7
        obtain ⟨j5, hj5⟩ : ∃ j5, j5 = j + 4 + 2 * p.Ex.length := ⟨_, rfl⟩
        rw [← hj5] at HM6 g6 g7 ⊢
        have j5b : j5 ≤ 536870912 := by omega
        have j5n : ¬ (j5 : Int) < 0 := by omega
        have HJ5 := hide hj5
        clear hj5
        go_wp2_with fail
        refine (unhide HM6 _ rfl).mono ?_; rintro e w2 ⟨rfl, hb2⟩
        have d2 := bT d1 hb2
        have i6 := (hb2.cell (p := ⟨g, off + i * 8 + 6, none⟩) q2).trans g6
        have i7 := (hb2.cell (p := ⟨g, off + i * 8 + 7, none⟩) q2).trans g7
        have q3 : g < w2.heap.size := Nat.lt_of_lt_of_le q2 hb2.size
        clear HM6 hb2 g5 g6 g7
        obtain ⟨j6, hj6⟩ : ∃ j6, j6 = j5 + 2 * bulkO p.Exs := ⟨_, rfl⟩
        rw [← hj6] at i6 i7 ⊢
        have j6b : j6 ≤ 536870912 := by have := unhide HJ5; omega
        have j6n : ¬ (j6 : Int) < 0 := by omega
        have HK6 : Hid (k + kNs (fs.take (i + 1)) = j6 + 1 + 1) := by show _ = _; have := unhide HK1; have := unhide HJ5; omega
        have e6 : ((j6 : Int) != (j6 : Int)) = false := by simp
        have e7 : (((j6 : Int) + 1) != ((j6 : Int) + 1)) = false := by simp
        clear hj6 HJ5 HK1
        go_wp2
        go_roundw
        case rel => exact ⟨i + 1, by omega, by go_num, by rw [unhide HK6]; go_num, d2⟩
        case measure => simp [intOf]; omega
      · obtain rfl : i = fs.length := by omega
        rw [List.take_length]
        go_wp2
        go_ret
        exact ⟨rfl, hb⟩
theorem markFlat_calls (fs : List Fn) (Rt : Int) (lab : Lb) (G cap k : Nat) (w : World) (h : FlM w lab G fs) (b1 : fs.length ≤ 1048576) (b2 : ∀ p ∈ fs, p.Ex.length ≤ 1048576 ∧ p.Exs.length ≤ 1048576 ∧ ∀ xs ∈ p.Exs, xs.length ≤ 1048576) (bk : k + kNs fs ≤ 536870912) :
    Calls Tryz.prog 13 #[.agg #[.slice (some ⟨G, 0, none⟩) fs.length cap, .int .i64 Rt], .int .i64 k] w fun e w' => e = .returned (.int .i64 ((k + kNs fs : Nat) : Int)) ∧ FlM w' lab G (mFns k fs) ∧ ButM (fun b => (lab b).1 ≤ 3) w w' := by
  have HM := hide (fun W (hb : Below w.heap.size w W) => markFNodeS_calls fs lab G cap k W (h.of hb) b1 b2 bk)
  clear h b2
  go_enter Tryz.func13, Tryz.ntmps13
  go_wp2_with fail
  refine (unhide HM _ (bA (Below.refl _ _) _)).mono ?_; rintro e w1 ⟨rfl, hF, hB⟩
  have HF := hide hF
  have HB := hide ((ButM.ofBelow (S := fun b => (lab b).1 ≤ 3) (bA (Below.refl w.heap.size w) (.cells #[.slice (some ⟨G, 0, none⟩) fs.length cap, .int .i64 Rt] 32))).trans hB)
  clear hF hB HM
  go_wp2
  go_ret
  exact ⟨rfl, unhide HF, unhide HB⟩
theorem markFlat_nil (a : Option Addr) (Rt : Int) (cap k : Nat) (w : World) :
    Calls Tryz.prog 13 #[.agg #[.slice a 0 cap, .int .i64 Rt], .int .i64 k] w fun e w' => e = .returned (.int .i64 (k : Int)) ∧ Below w.heap.size w w' := by
  have HM : Hid (∀ W, Calls Tryz.prog 39 #[.slice a 0 cap, .int .i64 (k : Int)] W fun e w' => e = .returned (.int .i64 (k : Int)) ∧ w' = W) := fun W => by
    go_enter Tryz.func39, Tryz.ntmps39
    go_wp2
    go_loopw [1, 5] (fun c s wr => s = .int .i64 0 ∧ c = .int .i64 (k : Int) ∧ wr = W) (fun _ _ _ => 0)
    case atStart => exact ⟨rfl, rfl, rfl⟩
    case round =>
      obtain ⟨rfl, rfl, rfl⟩ := hrel
      go_wp2
      go_ret
      exact ⟨rfl, rfl⟩
  go_enter Tryz.func13, Tryz.ntmps13
  go_wp2_with fail
  refine (unhide HM _).mono ?_; rintro e w1 ⟨rfl, rfl⟩
  go_wp2
  go_ret
  exact ⟨rfl, bA (Below.refl _ _) _⟩
theorem heldFlat_calls (fs : List Fn) (v : Value) (Rt : Int) (k : Nat) (w : World) (h : IsFns w v (mFns k fs)) (b1 : fs.length ≤ 1048576) (b2 : ∀ p ∈ fs, p.Ex.length ≤ 1048576 ∧ p.Exs.length ≤ 1048576 ∧ ∀ xs ∈ p.Exs, xs.length ≤ 1048576) (bk : k + kNs fs ≤ 536870912) :
    Calls Tryz.prog 15 #[.agg #[v, .int .i64 Rt], .int .i64 k] w fun e w' => e = .returned (.int .i64 ((k + kNs fs : Nat) : Int)) ∧ Below w.heap.size w w' := by
  have HM := hide (fun W (hb : Below w.heap.size w W) => heldFNodeS_calls fs v k W (h.of hb) b1 b2 bk)
  obtain ⟨a, c, rfl⟩ := isFns_slice h
  clear h b2
  have hkn : ¬ ((k + kNs fs : Nat) : Int) < 0 := by omega
  go_enter Tryz.func15, Tryz.ntmps15
  go_wp2_with fail
  refine (unhide HM _ (bA (Below.refl _ _) _)).mono ?_; rintro e w1 ⟨rfl, hb1⟩
  have d1 := bT (bA (Below.refl w.heap.size w) _) hb1
  clear hb1 HM
  go_wp2
  go_ret
  exact ⟨rfl, d1⟩
end Go.Proofs.YtnchcndcinpalaaGreatDoor
namespace Go.Proofs.YtnchcndcinpalaaGreatDoor
open Go Go.RowKit
def FitF (p : Fn) : Prop := p.Ex.length ≤ 1048576 ∧ p.Exs.length ≤ 1048576 ∧ ∀ xs ∈ p.Exs, xs.length ≤ 1048576
theorem map_exs {ts : List Tb} {ps : List Pn} (hG : Good ts ps) {i : Nat} (hi : i < ps.length) (hK : (ps[i]).K = 4) {w : Int} (hw : 0 ≤ wid ts ps i w) : w + ((ps[i]).Exs.length : Int) ≤ 200 := by
  have h1 := hG.wid_iw (i + 1) i (by omega) hi w hw
  have h2 := (wid_range ts ps i w).2 hw
  rw [h1, iw_at ts hi] at h2
  unfold stepW at h2
  simp [hK] at h2
  omega
theorem bulkO_app (a b : List (List O2)) : bulkO (a ++ b) = bulkO a + bulkO b := by
  induction a with
  | nil => simp [bulkO]
  | cons x a ih => simp only [List.cons_append, bulkO, ih]; omega
theorem bulkO_colExs : ∀ m, bulkO (colExs m) = m := fun m => by
  induction m with
  | zero => simp [colExs, bulkO]
  | succ m ih =>
    have : colExs (m + 1) = colExs m ++ [[((3 : Int), (m : Int))]] := by simp [colExs, List.range_succ]
    rw [this, bulkO_app, ih]
    simp [bulkO]
theorem colExs_small (m : Nat) : ∀ xs ∈ colExs m, xs.length ≤ 1048576 := fun xs hx => by
  simp only [colExs, List.mem_map] at hx
  obtain ⟨_, _, rfl⟩ := hx
  simp
def Cst (ps : List Pn) (k : Nat) : Nat := 1000 * k + 2 * bulkP (ps.take k)
theorem Cst_succ {ps : List Pn} {k : Nat} (hk : k < ps.length) : Cst ps (k + 1) = Cst ps k + 1000 + 2 * ((ps[k]).Ex.length + ((ps[k]).Exs.length + bulkO (ps[k]).Exs)) := by
  unfold Cst
  rw [bulkP_take ps k hk]
  omega
theorem Cst_mono {ps : List Pn} {a b : Nat} (h : a ≤ b) (hb : b ≤ ps.length) : Cst ps a ≤ Cst ps b := by
  induction b with
  | zero => have : a = 0 := by omega
            rw [this]; omega
  | succ b ih =>
    by_cases e : a = b + 1
    · rw [e]; omega
    · have h1 := ih (by omega) (by omega)
      have h2 := Cst_succ (ps := ps) (k := b) (by omega)
      omega
theorem kNs_one (r : List Fn) (p : Fn) : kNs (r ++ [p]) = kNs r + kN p := by rw [kNs_append]; simp [kNs]
theorem uN_bound {ts : List Tb} {ps : List Pn} (hG : Good ts ps) (fit : ∀ p ∈ ps, p.Ex.length ≤ 1048576 ∧ p.Exs.length ≤ 1048576 ∧ ∀ xs ∈ p.Exs, xs.length ≤ 1048576) : ∀ (f i : Nat), i < f → i < ps.length → ∀ (d w : Int) (out : List Fn), 0 ≤ w → 0 ≤ wid ts ps i w → (∀ p ∈ out, FitF p) →
    kNs (uN ts ps f i d w out).1 + Cst ps (frm (nds ps) i).toNat ≤ kNs out + Cst ps (i + 1) ∧ ∀ p ∈ (uN ts ps f i d w out).1, FitF p := by
  intro f
  induction f with
  | zero => intro i hi; omega
  | succ f ih =>
    intro i hif hi d w out h0 hw hout
    have hp : ps[i]? = some ps[i] := List.getElem?_eq_getElem hi
    have hF := hG.fld i hi
    have hfr := frm_le (nds ps) i
    have hfi := hG.frm hi
    have hcs := Cst_succ hi
    have hcm := Cst_mono (ps := ps) (a := (frm (nds ps) i).toNat) (b := i) (by omega) (by omega)
    obtain ⟨x1, x2, x3⟩ := fit _ (List.getElem_mem hi)
    have one : ∀ (r : List Fn) (q : Fn), (∀ p ∈ r, FitF p) → FitF q → ∀ p ∈ r ++ [q], FitF p := fun r q h1 h2 p hp => by
      rcases List.mem_append.1 hp with h | h
      · exact h1 p h
      · simp at h; subst h; exact h2
    have nil5 : ∀ (K T M W L R : Int), FitF ⟨K, T, M, W, (ps[i]).Ex, [], L, R⟩ := fun _ _ _ _ _ _ => ⟨x1, by simp, fun xs h => by simp at h⟩
    have nil0 : ∀ (K T M W L R : Int), FitF ⟨K, T, M, W, [], [], L, R⟩ := fun _ _ _ _ _ _ => ⟨by simp, by simp, fun xs h => by simp at h⟩
    by_cases h1 : (ps[i]).K = 1
    · rw [uN_1 hp h1]; exact ⟨by dsimp only; omega, hout⟩
    by_cases h2 : (ps[i]).K = 2
    · rw [uN_2 hp h2]
      refine ⟨?_, one _ _ (one _ _ hout (nil0 _ _ _ _ _ _)) (nil0 _ _ _ _ _ _)⟩
      dsimp only
      rw [kNs_one, kNs_one]
      simp [kN, bulkO]
      omega
    rcases kind_ar hF.1 hF.2.1 h1 h2 with h | h | h
    · obtain ⟨q, e1, e2, e3, e4, e5⟩ := un_one hG hi (arity_k.2.1 h) hw
      obtain ⟨hq1, hq2⟩ := ih q (by omega) (by omega) d w out h0 e5 hout
      have hL : (ps[i]).L.toNat = q := by omega
      rw [e3, ← e2] at hq1
      rcases h with h | h | h
      · rw [uN_3 hp h, hL]
        refine ⟨?_, one _ _ hq2 (nil5 _ _ _ _ _ _)⟩
        dsimp only
        rw [kNs_one]; simp [kN, bulkO]; omega
      · rw [uN_4 hp h, hL]
        have hm := map_exs hG hi h hw
        refine ⟨?_, one _ _ hq2 ⟨x1, by simp [colExs_length]; omega, fun xs hx => ?_⟩⟩
        · dsimp only
          rw [kNs_one]; simp [kN, bulkO_app, bulkO_colExs]; omega
        · rcases List.mem_append.1 hx with hx | hx
          · exact colExs_small _ xs hx
          · exact x3 xs hx
      · rw [uN_9 hp h, hL]
        refine ⟨?_, one _ _ hq2 (nil5 _ _ _ _ _ _)⟩
        dsimp only
        rw [kNs_one]; simp [kN, bulkO]; omega
    · obtain ⟨q, j, e1, e2, e3, e4, e8, e9, e5, e6, _, e7⟩ := un_two hG hi (arity_k.1 (by omega)) hw
      rw [insideW_no (by omega)] at e7
      obtain ⟨hq1, hq2⟩ := ih q (by omega) (by omega) d w out h0 e6 hout
      obtain ⟨hj1, hj2⟩ := ih j (by omega) (by omega) d w (uN ts ps f q d w out).1 h0 e7 hq2
      have hL : (ps[i]).L.toNat = q := by omega
      have hR : (ps[i]).R.toNat = j := by omega
      rw [e8] at hq1
      rw [e9, ← e3, show ((q : Int) + 1).toNat = q + 1 by omega] at hj1
      rw [uN_5 hp h, hL, hR]
      refine ⟨?_, one _ _ hj2 (nil5 _ _ _ _ _ _)⟩
      dsimp only
      rw [kNs_one]; simp [kN, bulkO]; omega
    · obtain ⟨q, j, e1, e2, e3, e4, e8, e9, e5, e6, eI, e7⟩ := un_two hG hi (arity_k.1 (by omega)) hw
      rw [insideW_dep h] at e7
      obtain ⟨hq1, hq2⟩ := ih q (by omega) (by omega) d w out h0 e6 hout
      have hL : (ps[i]).L.toNat = q := by omega
      have hR : (ps[i]).R.toNat = j := by omega
      obtain ⟨r, a, hra⟩ : ∃ r a, uN ts ps f q d w out = (r, a) := ⟨_, _, rfl⟩
      rw [hra] at hq1 hq2
      obtain ⟨hj1, hj2⟩ := ih j (by omega) (by omega) (r.length : Int) (w + iw ts ps q) (r ++ [⟨8, 0, 0, 0, [], [], a, 0⟩]) (by omega) e7 (one _ _ hq2 (nil0 _ _ _ _ _ _))
      rw [e8] at hq1
      rw [e9, ← e3, show ((q : Int) + 1).toNat = q + 1 by omega, kNs_one] at hj1
      rw [uN_6 (r := r) (a := a) hp h (by rw [hL]; exact hra), hL, hR]
      refine ⟨?_, one _ _ hj2 (nil5 _ _ _ _ _ _)⟩
      dsimp only at hq1 ⊢
      rw [kNs_one]; simp [kN, bulkO] at hj1 ⊢; omega
theorem unN_bound {ts : List Tb} {ps : List Pn} (hV : PlanV ts ps) (fit : ∀ p ∈ ps, p.Ex.length ≤ 1048576 ∧ p.Exs.length ≤ 1048576 ∧ ∀ xs ∈ p.Exs, xs.length ≤ 1048576) : kNs (unN ts ps).1 ≤ 6 + 1000 * ps.length + 2 * bulkP ps ∧ ∀ p ∈ (unN ts ps).1, p.Ex.length ≤ 1048576 ∧ p.Exs.length ≤ 1048576 ∧ ∀ xs ∈ p.Exs, xs.length ≤ 1048576 := by
  have hs := hV.some
  obtain ⟨h1, h2⟩ := uN_bound hV.good fit ps.length (ps.length - 1) (by omega) (by omega) 0 0 [⟨1, 0, 0, 0, [], [], 0, 0⟩] (by omega) hV.wide (fun p hp => by simp at hp; subst hp; exact ⟨by simp, by simp, fun xs h => by simp at h⟩)
  refine ⟨?_, h2⟩
  rw [show ps.length - 1 + 1 = ps.length by omega] at h1
  unfold unN
  simp [kNs, kN, bulkO] at h1
  have h3 : Cst ps ps.length = 1000 * ps.length + 2 * bulkP ps := by unfold Cst; rw [List.take_length]
  omega
end Go.Proofs.YtnchcndcinpalaaGreatDoor
namespace Go.Proofs.YtnchcndcinpalaaGreatDoor
open Go Go.RowKit
theorem make_opss (n : Nat) (hn : n ≤ 1048576) (w : World) :
    (Instr.makeSlice 65 (.int .i64 (n : Int)) (.int .i64 (n : Int))).run Tryz.prog w = .ok (.slice (some ⟨w.heap.size, 0, none⟩) n n) (w.alloc (.cells (madeCells #[.slice none 0 0] n) 64)) := by
  obtain ⟨i, hi, hz⟩ := Option.map_eq_some_iff.1 (show (Tryz.prog.info? 64).map (fun i => (i.zero, i.size, i.bytes)) = some (some (.slice none 0 0), 1, 24) by kernel_rfl)
  simp only [Prod.mk.injEq] at hz
  have := run_make (P := Tryz.prog) w 65 64 i _ Tryz.underlying65 hi hz.1 .i64 .i64 (n : Int) (n : Int) (by omega) (by omega) (by rw [hz.2.2]; omega) (by omega)
  rw [hz.2.1] at this
  simpa [Value.cells] using this
theorem make_opss0 (w : World) : (Instr.makeSlice 65 (.int .i64 0) (.int .i64 0)).run Tryz.prog w = .ok (.slice (some ⟨w.heap.size, 0, none⟩) 0 0) (w.alloc (.cells #[] 64)) := by
  have := make_opss 0 (by omega) w
  rw [show madeCells #[.slice none 0 0] 0 = #[] from Array.eq_empty_of_size_eq_zero (by simp [size_madeCells])] at this
  simpa using this
theorem make_pns (n : Nat) (hn : n ≤ 1048576) (w : World) :
    (Instr.makeSlice 50 (.int .i64 (n : Int)) (.int .i64 (n : Int))).run Tryz.prog w = .ok (.slice (some ⟨w.heap.size, 0, none⟩) n n) (w.alloc (.cells (madeCells #[.int .i64 0, .int .i64 0, .int .i64 0, .slice none 0 0, .slice none 0 0, .int .i64 0, .int .i64 0] (n * 7)) 130)) := by
  obtain ⟨i, hi, hz⟩ := Option.map_eq_some_iff.1 (show (Tryz.prog.info? 130).map (fun i => (i.zero, i.size, i.bytes)) = some (some (.agg #[.int .i64 0, .int .i64 0, .int .i64 0, .slice none 0 0, .slice none 0 0, .int .i64 0, .int .i64 0]), 7, 88) by kernel_rfl)
  simp only [Prod.mk.injEq] at hz
  have := run_make (P := Tryz.prog) w 50 130 i _ Tryz.underlying50 hi hz.1 .i64 .i64 (n : Int) (n : Int) (by omega) (by omega) (by rw [hz.2.2]; omega) (by omega)
  rw [hz.2.1] at this
  simpa [Value.cells] using this
theorem make_pns0 (w : World) : (Instr.makeSlice 50 (.int .i64 0) (.int .i64 0)).run Tryz.prog w = .ok (.slice (some ⟨w.heap.size, 0, none⟩) 0 0) (w.alloc (.cells #[] 130)) := by
  have := make_pns 0 (by omega) w
  rw [show madeCells #[.int .i64 0, .int .i64 0, .int .i64 0, .slice none 0 0, .slice none 0 0, .int .i64 0, .int .i64 0] (0 * 7) = #[] from Array.eq_empty_of_size_eq_zero (by simp [size_madeCells])] at this
  simpa using this
end Go.Proofs.YtnchcndcinpalaaGreatDoor
namespace Go.Proofs.YtnchcndcinpalaaGreatDoor
open Go Go.RowKit
end Go.Proofs.YtnchcndcinpalaaGreatDoor
namespace Go.Proofs.YtnchcndcinpalaaGreatDoor
open Go Go.RowKit
def OssM (w : World) (G : Nat) (lb : Nat → Nat) (oss : List (List O2)) : Prop := ∀ i xs, oss[i]? = some xs → ∃ u, w.cell? ⟨G, i, none⟩ = some u ∧ OpsM w u xs (fun b => G < b ∧ lb b = i)
theorem OssM.nil (w : World) (G : Nat) (lb : Nat → Nat) : OssM w G lb [] := fun i xs hx => by simp at hx
theorem OssM.of {w w1 : World} {G : Nat} {lb : Nat → Nat} {oss : List (List O2)} (h : OssM w G lb oss) (hG : G < w.heap.size) (hb : Below w.heap.size w w1) : OssM w1 G lb oss := fun i xs hx => by
  obtain ⟨u, hu, hr⟩ := h i xs hx
  exact ⟨u, (hb.cell (p := ⟨G, i, none⟩) hG).trans hu, hr.of hb⟩
theorem OssM.far {w : World} {G : Nat} {lb : Nat → Nat} {oss : List (List O2)} (h : OssM w G lb oss) {X O : Nat} (hX : X < G) (v : Value) : OssM (w.setCell ⟨X, O, none⟩ v) G lb oss := fun i xs hx => by
  obtain ⟨u, hu, hr⟩ := h i xs hx
  exact ⟨u, by rw [setCell_farN (by omega)]; exact hu, hr.but (ButM.set (S := fun b => b = X) (ButM.refl _ _) rfl v) (fun b hb e => by have := hb.1; omega)⟩
theorem OssM.put {wr w1 : World} {G k g1 : Nat} {lb : Nat → Nat} {oss : List (List O2)} (h : OssM wr G lb (oss.take k)) (hG : G < wr.heap.size) (hk : k < oss.length) (hb1 : Below wr.heap.size wr w1) (hg1 : wr.heap.size ≤ g1) (ho1 : OwnOps w1 g1 (oss[k]).length oss[k]) (hall : ∃ v, w1.cell? ⟨G, k, none⟩ = some v) :
    OssM (w1.setCell ⟨G, k, none⟩ (.slice (some ⟨g1, 0, none⟩) (oss[k]).length (oss[k]).length)) G (fun b => if b = g1 then k else lb b) (oss.take (k + 1)) := fun i xs hx => by
  have hBt : ButM (fun b => b = G) w1 (w1.setCell ⟨G, k, none⟩ (.slice (some ⟨g1, 0, none⟩) (oss[k]).length (oss[k]).length)) := ButM.set (S := fun b => b = G) (ButM.refl _ _) rfl _
  rw [take_snocN oss k hk] at hx
  have hl : (oss.take k).length = k := by simp; omega
  by_cases hi : i < k
  · rw [List.getElem?_append_left (by omega)] at hx
    obtain ⟨u, hu, hr⟩ := h i xs hx
    refine ⟨u, by rw [setCell_otherN (by omega)]; exact (hb1.cell (p := ⟨G, i, none⟩) hG).trans hu, ?_⟩
    have h1 := hr.mono (T := fun b => G < b ∧ (if b = g1 then k else lb b) = i) (fun b hb hs => ⟨hs.1, by rw [if_neg (by omega)]; exact hs.2⟩)
    exact (h1.of hb1).but hBt (fun b hb e => by have := hb.1; omega)
  · obtain rfl : i = k := by
      have := (List.getElem?_eq_some_iff.1 hx).1
      simp at this; omega
    rw [List.getElem?_append_right (by omega)] at hx
    simp [hl] at hx
    subst hx
    obtain ⟨v, hv⟩ := hall
    exact ⟨_, World.cell?_setCell_same _ _ _ hv, Or.inr ⟨g1, _, rfl, Nat.le_refl _, ⟨by omega, by simp⟩, ho1.butM hBt (by omega)⟩⟩
set_option maxHeartbeats 1000000 in
theorem toOpSS_M (v : Value) (oss : List (List O2)) (w : World) (hv : IsOpss w v oss) (hn : oss.length ≤ 1048576) (hx : bulkO oss ≤ 1048576) :
    Calls Tryz.prog 99 #[v] w fun e w' => ∃ (G : Nat) (lb : Nat → Nat), e = .returned (.slice (some ⟨G, 0, none⟩) oss.length oss.length) ∧ w.heap.size ≤ G ∧ OwnOpss w' G oss.length oss ∧ OssM w' G lb oss ∧ Below w.heap.size w w' := by
  rcases hv with ⟨rfl, a, cap, rfl⟩ | ⟨g, off, cap, rfl, hg, hr⟩
  · have hmk := make_opss0
    clear hn hx
    go_enter Tryz.func99, Tryz.ntmps99
    go_wp2
    go_loopw [4] (fun i wr => i = .int .i64 0 ∧ OwnOpss wr w.heap.size 0 [] ∧ Below w.heap.size w wr) (fun _ _ => 0)
    case atStart => exact ⟨rfl, OwnOpss.made w 0 #[] _ rfl, bA (Below.refl _ _) _⟩
    case round =>
      obtain ⟨rfl, ho, hb⟩ := hrel
      go_wp2
      go_ret
      exact ⟨_, fun _ => 0, rfl, Nat.le_refl _, ho, OssM.nil _ _ _, hb⟩
  · have hmk := make_opss oss.length hn
    have hO : Hid (OwnOpss (w.alloc (.cells (madeCells #[.slice none 0 0] oss.length) 64)) w.heap.size oss.length []) := OwnOpss.made w _ _ _ (by simp [size_madeCells])
    have HR := hide hr
    clear hr
    go_enter Tryz.func99, Tryz.ntmps99
    go_wp2
    go_loopw [4] (fun i wr => ∃ k : Nat, k ≤ oss.length ∧ i = .int .i64 k ∧ OwnOpss wr w.heap.size oss.length (oss.take k) ∧ (∃ lb : Nat → Nat, OssM wr w.heap.size lb (oss.take k)) ∧ Below w.heap.size w wr) (fun i _ => oss.length - (intOf i).toNat)
    case atStart => exact ⟨0, Nat.zero_le _, rfl, by simpa using hO.out, ⟨fun _ => 0, by rw [List.take_zero]; exact OssM.nil _ _ _⟩, bA (Below.refl _ _) _⟩
    case round =>
      clear hO hmk
      obtain ⟨k, hk, rfl, ho, ⟨lb, hl⟩, hb⟩ := hrel
      by_cases hlt : k < oss.length
      · obtain ⟨u, hu, hru⟩ := (unhide HR) k oss[k] (List.getElem?_eq_getElem hlt)
        have e0 : wr.cell? ⟨g, off + k, none⟩ = some u := (hb.cell (p := ⟨g, off + k, none⟩) hg).trans hu
        have hxk : oss[k].length ≤ 1048576 := Nat.le_trans (bulkO_mem (List.getElem_mem hlt)) hx
        have q1 : g < wr.heap.size := Nat.lt_of_lt_of_le hg hb.size
        have HO := hide ho; have HL := hide hl
        clear ho hl
        go_wp2_with fail
        refine (toOpS_calls u oss[k] _ (hru.of hb) hxk).mono ?_; rintro e w1 ⟨g1, rfl, hg1, ho1, hb1⟩
        have d1 := bT hb hb1
        have hoG := (unhide HO).of hb1
        have HL2 := hide ((unhide HL).put (unhide HO).size hlt hb1 hg1 ho1 (hoG.all k hlt))
        have hN := hide (hoG.put hlt hlt g1 (Nat.lt_of_lt_of_le (unhide HO).size hg1) ho1.size ho1.held)
        obtain ⟨u0, hu0⟩ := hoG.all k hlt
        have hf := hoG.frz
        clear hoG hb1 HO HL ho1 hg1 e0
        go_wp2
        go_roundw
        case rel => exact ⟨k + 1, by omega, by go_num, unhide hN, ⟨_, unhide HL2⟩, d1.setCell (Nat.le_refl _) _⟩
        case measure => simp [intOf]; omega
      · obtain rfl : k = oss.length := by omega
        rw [List.take_length] at ho hl
        go_wp2
        go_ret
        exact ⟨_, lb, rfl, Nat.le_refl _, ho, hl, hb⟩
end Go.Proofs.YtnchcndcinpalaaGreatDoor
