import Derived.Test.YtnchcndcinpalaaGreatDoorQ13
import Derived.Test.YtnchcndcinpalaaGreatDoorQ23
import Derived.Test.YtnchcndcinpalaaGreatDoorQ42
import Derived.Test.YtnchcndcinpalaaGreatDoorQ0
namespace Go.Proofs.YtnchcndcinpalaaGreatDoor
open Go Go.RowKit
structure PnM (w : World) (lab : Lb) (G i : Nat) (p : Pn) : Prop where
  c0 : w.cell? ⟨G, i * 7, none⟩ = some (.int .i64 p.K)
  c1 : w.cell? ⟨G, i * 7 + 1, none⟩ = some (.int .i64 p.T)
  c2 : w.cell? ⟨G, i * 7 + 2, none⟩ = some (.int .i64 p.M)
  c5 : w.cell? ⟨G, i * 7 + 5, none⟩ = some (.int .i64 p.L)
  c6 : w.cell? ⟨G, i * 7 + 6, none⟩ = some (.int .i64 p.R)
  ex : ∃ u, w.cell? ⟨G, i * 7 + 3, none⟩ = some u ∧ OpsM w u p.Ex (fun b => lab b = (0, i, 0))
  exs : ∃ u, w.cell? ⟨G, i * 7 + 4, none⟩ = some u ∧ OpssM w u p.Exs (fun b => lab b = (1, i, 0)) (fun j b => lab b = (2, i, j))
theorem PnM.of {w w1 : World} {lab : Lb} {G i : Nat} {p : Pn} (h : PnM w lab G i p) (hg : G < w.heap.size) (hb : Below w.heap.size w w1) : PnM w1 lab G i p := by
  obtain ⟨c0, c1, c2, c5, c6, ⟨u, c3, h3⟩, u', c4, h4⟩ := h
  exact ⟨(hb.cell (p := ⟨G, i * 7, none⟩) hg).trans c0, (hb.cell (p := ⟨G, i * 7 + 1, none⟩) hg).trans c1, (hb.cell (p := ⟨G, i * 7 + 2, none⟩) hg).trans c2, (hb.cell (p := ⟨G, i * 7 + 5, none⟩) hg).trans c5, (hb.cell (p := ⟨G, i * 7 + 6, none⟩) hg).trans c6,
    ⟨u, (hb.cell (p := ⟨G, i * 7 + 3, none⟩) hg).trans c3, h3.of hb⟩, u', (hb.cell (p := ⟨G, i * 7 + 4, none⟩) hg).trans c4, h4.of hb⟩
theorem PnM.but {w w1 : World} {lab : Lb} {G i : Nat} {p : Pn} {T : Nat → Prop} (h : PnM w lab G i p) (hg : G < w.heap.size) (hb : ButM T w w1) (hG : ¬ T G) (h0 : ∀ b, lab b = (0, i, 0) → ¬ T b) (h1 : ∀ b, lab b = (1, i, 0) → ¬ T b) (h2 : ∀ j b, lab b = (2, i, j) → ¬ T b) : PnM w1 lab G i p := by
  obtain ⟨c0, c1, c2, c5, c6, ⟨u, c3, h3⟩, u', c4, h4⟩ := h
  exact ⟨(hb.cell G _ hg hG).trans c0, (hb.cell G _ hg hG).trans c1, (hb.cell G _ hg hG).trans c2, (hb.cell G _ hg hG).trans c5, (hb.cell G _ hg hG).trans c6, ⟨u, (hb.cell G _ hg hG).trans c3, h3.but hb h0⟩, u', (hb.cell G _ hg hG).trans c4, h4.but hb h1 h2⟩
theorem PnM.far {w : World} {lab : Lb} {G i : Nat} {p : Pn} (h : PnM w lab G i p) (hl : lab G = (3, 0, 0)) {O : Nat} (hO : O < i * 7 ∨ i * 7 + 6 < O) (v : Value) : PnM (w.setCell ⟨G, O, none⟩ v) lab G i p := by
  obtain ⟨c0, c1, c2, c5, c6, ⟨u, c3, h3⟩, u', c4, h4⟩ := h
  have hB : ButM (fun b => b = G) w (w.setCell ⟨G, O, none⟩ v) := ButM.set (S := fun b => b = G) (ButM.refl _ _) rfl v
  have hk : ∀ k, k ≤ 6 → (w.setCell ⟨G, O, none⟩ v).cell? ⟨G, i * 7 + k, none⟩ = w.cell? ⟨G, i * 7 + k, none⟩ := fun k hk => by rw [setCell_otherN (by omega)]
  have h0 := hk 0 (by omega)
  rw [Nat.add_zero] at h0
  have d : ∀ b x, lab b = x → x ≠ (3, 0, 0) → ¬ b = G := fun b x hb hx e => hx (by rw [← hb, e, hl])
  exact ⟨h0.trans c0, (hk 1 (by omega)).trans c1, (hk 2 (by omega)).trans c2, (hk 5 (by omega)).trans c5, (hk 6 (by omega)).trans c6, ⟨u, (hk 3 (by omega)).trans c3, h3.but hB (fun b hb => d b _ hb (by simp))⟩, u', (hk 4 (by omega)).trans c4, h4.but hB (fun b hb => d b _ hb (by simp)) (fun j b hb => d b _ hb (by simp))⟩
structure PlM (w : World) (lab : Lb) (G : Nat) (ps : List Pn) : Prop where
  size : G < w.heap.size
  lab3 : lab G = (3, 0, 0)
  frz : ∀ o, w.frozen? ⟨G, o, none⟩ = false
  node : ∀ i p, ps[i]? = some p → PnM w lab G i p
theorem PlM.of {w w1 : World} {lab : Lb} {G : Nat} {ps : List Pn} (h : PlM w lab G ps) (hb : Below w.heap.size w w1) : PlM w1 lab G ps :=
  ⟨Nat.lt_of_lt_of_le h.size hb.size, h.lab3, fun o => (hb.frozen (p := ⟨G, o, none⟩) h.size).trans (h.frz o), fun i p hp => (h.node i p hp).of h.size hb⟩
theorem PlM.but {w w1 : World} {lab : Lb} {G : Nat} {fs : List Pn} {T : Nat → Prop} (h : PlM w lab G fs) (hb : ButM T w w1) (hT : ∀ b, (lab b).1 ≤ 3 → ¬ T b) : PlM w1 lab G fs :=
  ⟨Nat.lt_of_lt_of_le h.size hb.size, h.lab3, fun o => (hb.frz G o h.size).trans (h.frz o), fun i p hp => (h.node i p hp).but h.size hb (hT G (by rw [h.lab3]; omega)) (fun b e => hT b (by rw [e]; omega)) (fun b e => hT b (by rw [e]; omega)) (fun j b e => hT b (by rw [e]; omega))⟩
def kP (p : Pn) : Nat := 5 + 2 * p.Ex.length + 2 * bulkO p.Exs
def kPs : List Pn → Nat
  | [] => 0
  | p :: r => kP p + kPs r
theorem kPs_append (a b : List Pn) : kPs (a ++ b) = kPs a + kPs b := by
  induction a with
  | nil => simp [kPs]
  | cons x a ih => simp only [List.cons_append, kPs, ih]; omega
theorem kPs_take (fs : List Pn) (k : Nat) (hk : k < fs.length) : kPs (fs.take (k + 1)) = kPs (fs.take k) + kP fs[k] := by
  rw [take_snocN fs k hk, kPs_append]; simp [kPs]
theorem kPs_take_le (fs : List Pn) (k : Nat) : kPs (fs.take k) ≤ kPs fs := by
  have := kPs_append (fs.take k) (fs.drop k)
  rw [List.take_append_drop] at this
  omega
theorem kPs_le (ps : List Pn) : kPs ps ≤ 5 * ps.length + 2 * bulkP ps := by
  induction ps with
  | nil => simp [kPs]
  | cons p r ih => simp only [kPs, kP, bulkP, List.length_cons]; omega
set_option maxRecDepth 100000 in
set_option maxHeartbeats 4000000 in
theorem markPNodeS_calls (ps : List Pn) (lab : Lb) (G cap k : Nat) (w : World) (h : PlM w lab G ps) (b1 : ps.length ≤ 1048576) (b2 : ∀ p ∈ ps, p.Ex.length ≤ 1048576 ∧ p.Exs.length ≤ 1048576 ∧ ∀ xs ∈ p.Exs, xs.length ≤ 1048576) (bk : k + kPs ps ≤ 536870912) :
    Calls Tryz.prog 50 #[.slice (some ⟨G, 0, none⟩) ps.length cap, .int .i64 k] w fun e w' => e = .returned (.int .i64 ((k + kPs ps : Nat) : Int)) ∧ ButM (fun b => (lab b).1 ≤ 3) w w' := by
  have hG := h.size
  have hl3 := h.lab3
  have HNd := hide h.node; have HB2 := hide b2; have HFz := hide h.frz
  clear h b2
  go_enter Tryz.func50, Tryz.ntmps50
  go_wp2
  go_loopw [1, 5] (fun c s wr => ∃ i : Nat, i ≤ ps.length ∧ s = .int .i64 i ∧ c = .int .i64 ((k + kPs (ps.take i) : Nat) : Int) ∧ (∀ j p, i ≤ j → ps[j]? = some p → PnM wr lab G j p) ∧ ButM (fun b => (lab b).1 ≤ 3) w wr) (fun _ s _ => ps.length - (intOf s).toNat)
  case atStart => exact ⟨0, Nat.zero_le _, rfl, by simp [kPs], fun j p _ hp => unhide HNd j p hp, ButM.refl _ _⟩
  case round =>
    obtain ⟨i, hi, rfl, rfl, hM, hB⟩ := hrel
    by_cases hlt : i < ps.length
    · have j1 : (i : Int) < (ps.length : Int) := by omega
      have hn := hM i ps[i] (Nat.le_refl _) (List.getElem?_eq_getElem hlt)
      have q1 : G < wr.heap.size := Nat.lt_of_lt_of_le hG hB.size
      have hf : ∀ o, wr.frozen? ⟨G, o, none⟩ = false := fun o => (hB.frz G o hG).trans (unhide HFz o)
      obtain ⟨x1, x2, x3⟩ := unhide HB2 _ (List.getElem_mem hlt)
      have hk1 := kPs_take ps i hlt
      have hk2 := kPs_take_le ps (i + 1)
      have hkN : kP ps[i] = 5 + 2 * (ps[i]).Ex.length + 2 * bulkO (ps[i]).Exs := rfl
      obtain ⟨j, hj⟩ : ∃ j, j = k + kPs (ps.take i) := ⟨_, rfl⟩
      have hjb : j + kP ps[i] ≤ 536870912 := by omega
      obtain ⟨c0, c1, c2, c5, c6, ⟨u, c3, h3⟩, u', c4, h4⟩ := hn
      have HM := hide hM; have HB := hide hB
      have HK1 : Hid (k + kPs (ps.take (i + 1)) = j + kP ps[i]) := by show _ = _; omega
      rw [← hj]
      clear hM hB hj hk1 hk2
      generalize hp : ps[i] = p at *
      clear hp
      have dG : ∀ b x, lab b = x → x ≠ (3, 0, 0) → ¬ b = G := fun b x hb hx e => hx (by rw [← hb, e, hl3])
      have dl : ∀ b x y, lab b = x → lab b = y → x = y := fun b x y h1 h2 => h1.symm.trans h2
      have s3 := h3.slice
      have s4 := isOpss_slice h4.is
      obtain ⟨ua, uc, rfl⟩ := s3
      obtain ⟨ua', uc', rfl⟩ := s4
      have H3 := hide h3; have H4 := hide h4; have HdG := hide dG; have Hdl := hide dl
      clear h3 h4 dG dl
      go_upto_region 10 with fail
      have hBa : ButM (fun b => b = G) wr (((wr.setCell ⟨G, i * 7, none⟩ (.int .i64 (j : Int))).setCell ⟨G, i * 7 + 1, none⟩ (.int .i64 ((j : Int) + 1))).setCell ⟨G, i * 7 + 2, none⟩ (.int .i64 ((j : Int) + 1 + 1))) := ButM.set (S := fun b => b = G) (ButM.set (S := fun b => b = G) (ButM.set (S := fun b => b = G) (ButM.refl _ _) rfl _) rfl _) rfl _
      have H3a := hide ((unhide H3).but hBa (fun b hb => unhide HdG b _ hb (by simp)))
      have H4a := hide ((unhide H4).but hBa (fun b hb => unhide HdG b _ hb (by simp)) (fun jj b hb => unhide HdG b _ hb (by simp)))
      obtain ⟨n3, n4, n5, n6⟩ := (fun Q (hQ : (((wr.setCell ⟨G, i * 7, none⟩ (.int .i64 (j : Int))).setCell ⟨G, i * 7 + 1, none⟩ (.int .i64 ((j : Int) + 1))).setCell ⟨G, i * 7 + 2, none⟩ (.int .i64 ((j : Int) + 1 + 1))) = Q) => (by subst hQ; exact ⟨by rw [setCell_otherN (by omega), setCell_otherN (by omega), setCell_otherN (by omega)]; exact c3, by rw [setCell_otherN (by omega), setCell_otherN (by omega), setCell_otherN (by omega)]; exact c4, by rw [setCell_otherN (by omega), setCell_otherN (by omega), setCell_otherN (by omega)]; exact c5, by rw [setCell_otherN (by omega), setCell_otherN (by omega), setCell_otherN (by omega)]; exact c6⟩ : Q.cell? ⟨G, i * 7 + 3, none⟩ = some (.slice ua p.Ex.length uc) ∧ Q.cell? ⟨G, i * 7 + 4, none⟩ = some (.slice ua' p.Exs.length uc') ∧ Q.cell? ⟨G, i * 7 + 5, none⟩ = some (.int .i64 p.L) ∧ Q.cell? ⟨G, i * 7 + 6, none⟩ = some (.int .i64 p.R))) _ rfl
      have hfa : ∀ o, (((wr.setCell ⟨G, i * 7, none⟩ (.int .i64 (j : Int))).setCell ⟨G, i * 7 + 1, none⟩ (.int .i64 ((j : Int) + 1))).setCell ⟨G, i * 7 + 2, none⟩ (.int .i64 ((j : Int) + 1 + 1))).frozen? ⟨G, o, none⟩ = false := fun o => by rw [frozen_setCellN, frozen_setCellN, frozen_setCellN]; exact hf o
      have hza : G < (((wr.setCell ⟨G, i * 7, none⟩ (.int .i64 (j : Int))).setCell ⟨G, i * 7 + 1, none⟩ (.int .i64 ((j : Int) + 1))).setCell ⟨G, i * 7 + 2, none⟩ (.int .i64 ((j : Int) + 1 + 1))).heap.size := by simpa using q1
      have HOth : Hid (∀ jj q, i + 1 ≤ jj → ps[jj]? = some q → PnM (((wr.setCell ⟨G, i * 7, none⟩ (.int .i64 (j : Int))).setCell ⟨G, i * 7 + 1, none⟩ (.int .i64 ((j : Int) + 1))).setCell ⟨G, i * 7 + 2, none⟩ (.int .i64 ((j : Int) + 1 + 1))) lab G jj q) := fun jj q hjj hq => (((unhide HM jj q (by omega) hq).far hl3 (by omega) _).far hl3 (by omega) _).far hl3 (by omega) _
      have HBa := hide hBa
      clear hBa c0 c1 c2 c3 c4 c5 c6 hf H3 H4 HM q1
      generalize (((wr.setCell ⟨G, i * 7, none⟩ (.int .i64 (j : Int))).setCell ⟨G, i * 7 + 1, none⟩ (.int .i64 ((j : Int) + 1))).setCell ⟨G, i * 7 + 2, none⟩ (.int .i64 ((j : Int) + 1 + 1))) = wa at *
      have HM4 : Hid (∀ kz : Int, kz = ((j + 3 : Nat) : Int) → Calls Tryz.prog 73 #[.slice ua p.Ex.length uc, .int .i64 kz] wa fun e w' => e = .returned (.int .i64 ((j + 3 + 2 * p.Ex.length : Nat) : Int)) ∧ ButM (fun b => lab b = (0, i, 0)) wa w') := fun kz hkz => by
        subst hkz
        exact (markOpS_calls p.Ex _ _ (j + 3) wa (unhide H3a) x1 (by omega)).mono (fun e w' h => ⟨h.1, h.2.2⟩)
      go_wp2_with fail
      refine (unhide HM4 _ (by push_cast; omega)).mono ?_; rintro e wb ⟨rfl, hBb⟩
      have hG0 : ¬ lab G = (0, i, 0) := fun h => by have := unhide Hdl G _ _ hl3 h; simp at this
      replace n4 := (hBb.cell G (i * 7 + 4) hza hG0).trans n4
      replace n5 := (hBb.cell G (i * 7 + 5) hza hG0).trans n5
      replace n6 := (hBb.cell G (i * 7 + 6) hza hG0).trans n6
      have hfb : ∀ o, wb.frozen? ⟨G, o, none⟩ = false := fun o => (hBb.frz G o hza).trans (hfa o)
      have hzb : G < wb.heap.size := Nat.lt_of_lt_of_le hza hBb.size
      have H4b := hide ((unhide H4a).but hBb (fun b h h' => by have := unhide Hdl b _ _ h h'; simp at this) (fun jj b h h' => by have := unhide Hdl b _ _ h h'; simp at this))
      replace HOth := hide (fun jj q hjj hq => (unhide HOth jj q hjj hq).but hza hBb hG0 (fun b h h' => by have := unhide Hdl b _ _ h h'; simp at this; omega) (fun b h h' => by have := unhide Hdl b _ _ h h'; simp at this) (fun j1 b h h' => by have := unhide Hdl b _ _ h h'; simp at this) : ∀ jj q, i + 1 ≤ jj → ps[jj]? = some q → PnM wb lab G jj q)
      have HBb := hide hBb
      clear hBb HM4 H3a H4a n3 hfa
      have HM5 : Hid (∀ kz : Int, kz = ((j + 3 + 2 * p.Ex.length : Nat) : Int) → Calls Tryz.prog 74 #[.slice ua' p.Exs.length uc', .int .i64 kz] wb fun e w' => e = .returned (.int .i64 ((j + 3 + 2 * p.Ex.length + 2 * bulkO p.Exs : Nat) : Int)) ∧ ButM (fun b => ∃ jj, lab b = (2, i, jj)) wb w') := fun kz hkz => by
        subst hkz
        exact (markOpSS_calls p.Exs _ _ _ (j + 3 + 2 * p.Ex.length) wb (unhide H4b) (fun jj b h h' => by have := unhide Hdl b _ _ h h'; simp at this) (fun j1 j2 b hne h h' => by have := unhide Hdl b _ _ h h'; simp at this; exact hne this) x2 x3 (by omega)).mono (fun e w' h => ⟨h.1, h.2.2⟩)
      obtain ⟨j5, hj5⟩ : ∃ j5, j5 = j + 3 + 2 * p.Ex.length := ⟨_, rfl⟩
      rw [← hj5] at HM5 ⊢
      have HJ5 := hide hj5
      have j5b : j5 ≤ 536870912 := by omega
      clear hj5
      go_wp2_with fail
      refine (unhide HM5 _ rfl).mono ?_; rintro e wc ⟨rfl, hBc⟩
      have hG2 : ¬ ∃ jj, lab G = (2, i, jj) := fun ⟨jj, h⟩ => by have := unhide Hdl G _ _ hl3 h; simp at this
      replace n5 := (hBc.cell G (i * 7 + 5) hzb hG2).trans n5
      replace n6 := (hBc.cell G (i * 7 + 6) hzb hG2).trans n6
      have hfc : ∀ o, wc.frozen? ⟨G, o, none⟩ = false := fun o => (hBc.frz G o hzb).trans (hfb o)
      have hzc : G < wc.heap.size := Nat.lt_of_lt_of_le hzb hBc.size
      replace HOth := hide (fun jj q hjj hq => (unhide HOth jj q hjj hq).but hzb hBc hG2 (fun b h ⟨j1, h'⟩ => by have := unhide Hdl b _ _ h h'; simp at this) (fun b h ⟨j1, h'⟩ => by have := unhide Hdl b _ _ h h'; simp at this) (fun j2 b h ⟨j1, h'⟩ => by have := unhide Hdl b _ _ h h'; simp at this; omega) : ∀ jj q, i + 1 ≤ jj → ps[jj]? = some q → PnM wc lab G jj q)
      obtain ⟨j6, hj6⟩ : ∃ j6, j6 = j5 + 2 * bulkO p.Exs := ⟨_, rfl⟩
      rw [← hj6]
      have j6b : j6 ≤ 536870912 := by have := unhide HJ5; omega
      have HK6 : Hid (k + kPs (ps.take (i + 1)) = j6 + 1 + 1) := by show _ = _; have := unhide HK1; have := unhide HJ5; omega
      have HNx : Hid (∀ jj q, i + 1 ≤ jj → ps[jj]? = some q → PnM ((wc.setCell ⟨G, i * 7 + 5, none⟩ (.int .i64 (j6 : Int))).setCell ⟨G, i * 7 + 6, none⟩ (.int .i64 ((j6 : Int) + 1))) lab G jj q) := fun jj q hjj hq => ((unhide HOth jj q hjj hq).far hl3 (by omega) _).far hl3 (by omega) _
      have HB5 : Hid (ButM (fun b => (lab b).1 ≤ 3) w ((wc.setCell ⟨G, i * 7 + 5, none⟩ (.int .i64 (j6 : Int))).setCell ⟨G, i * 7 + 6, none⟩ (.int .i64 ((j6 : Int) + 1)))) :=
        ((((unhide HB).trans ((unhide HBa).mono (fun b hb => by rw [hb, hl3]; omega))).trans ((unhide HBb).mono (fun b hb => by rw [hb]; omega))).trans (hBc.mono (fun b ⟨jj, hb⟩ => by rw [hb]; omega))).set (by rw [hl3]; omega) _ |>.set (by rw [hl3]; omega) _
      clear hBc HB HBa HBb HOth H4b HM5 n4 hfb hj6 HJ5 HK1 Hdl HdG hG0 hG2
      go_wp2
      go_roundw
      case rel => exact ⟨i + 1, by omega, by go_num, by rw [unhide HK6]; go_num, unhide HNx, unhide HB5⟩
      case measure => simp [intOf]; omega
    · obtain rfl : i = ps.length := by omega
      rw [List.take_length]
      clear hM HNd HB2 HFz
      go_wp2
      go_ret
      exact ⟨rfl, hB⟩
theorem markPlan_calls (ps : List Pn) (lab : Lb) (G cap k : Nat) (w : World) (h : PlM w lab G ps) (b1 : ps.length ≤ 1048576) (b2 : ∀ p ∈ ps, p.Ex.length ≤ 1048576 ∧ p.Exs.length ≤ 1048576 ∧ ∀ xs ∈ p.Exs, xs.length ≤ 1048576) (bk : k + kPs ps ≤ 536870912) :
    Calls Tryz.prog 21 #[.agg #[.slice (some ⟨G, 0, none⟩) ps.length cap], .int .i64 k] w fun e w' => e = .returned (.int .i64 ((k + kPs ps : Nat) : Int)) ∧ ButM (fun b => (lab b).1 ≤ 3) w w' := by
  have HM := hide (fun W (hb : Below w.heap.size w W) => markPNodeS_calls ps lab G cap k W (h.of hb) b1 b2 bk)
  clear h b2
  go_enter Tryz.func21, Tryz.ntmps21
  go_wp2_with fail
  refine (unhide HM _ (bA (Below.refl _ _) _)).mono ?_; rintro e w1 ⟨rfl, hB⟩
  have HB := hide ((ButM.ofBelow (S := fun b => (lab b).1 ≤ 3) (bA (Below.refl w.heap.size w) (.cells #[.slice (some ⟨G, 0, none⟩) ps.length cap] 52))).trans hB)
  clear hB HM
  go_wp2
  go_ret
  exact ⟨rfl, unhide HB⟩
end Go.Proofs.YtnchcndcinpalaaGreatDoor
namespace Go.Proofs.YtnchcndcinpalaaGreatDoor
open Go Go.RowKit
theorem PnM.relab {w : World} {lab lab' : Lb} {G i : Nat} {p : Pn} (h : PnM w lab G i p) (hl : ∀ b, b < w.heap.size → lab' b = lab b) : PnM w lab' G i p := by
  obtain ⟨c0, c1, c2, c5, c6, ⟨u, c3, h3⟩, u', c4, h4⟩ := h
  exact ⟨c0, c1, c2, c5, c6, ⟨u, c3, h3.mono (fun b hb e => by rw [hl b hb]; exact e)⟩, u', c4, h4.mono (fun b hb e => by rw [hl b hb]; exact e) (fun j b hb e => by rw [hl b hb]; exact e)⟩
structure PlT (w : World) (lab : Lb) (B G k : Nat) (fs : List Pn) : Prop where
  lab3 : lab G = (3, 0, 0)
  rng : ∀ b, (lab b).1 ≤ 3 → B ≤ b ∧ b < w.heap.size
  node : ∀ i p, (fs.take k)[i]? = some p → PnM w lab G i p
theorem PlT.put {wr w1 : World} {lab : Lb} {B G k b b' : Nat} {lb : Nat → Nat} {fs : List Pn} (h : PlT wr lab B G k fs) (hB : B ≤ wr.heap.size) (hG : G < wr.heap.size) (hk : k < fs.length) (hb1 : Below wr.heap.size wr w1)
    (hb0 : wr.heap.size ≤ b) (hbb : b < b') (hbs : b' < w1.heap.size) (ho4 : OwnOps w1 b (fs[k]).Ex.length (fs[k]).Ex) (ho5 : OssM w1 b' lb (fs[k]).Exs) (hall : ∀ o, o < 7 → ∃ v, w1.cell? ⟨G, k * 7 + o, none⟩ = some v) :
    PlT (putPn w1 G (k * 7) fs[k] b b') (labN lab k b b' wr.heap.size w1.heap.size lb) B G (k + 1) fs := by
  have hsz : (putPn w1 G (k * 7) fs[k] b b').heap.size = w1.heap.size := by simp [putPn]
  have hle := hb1.size
  have hGl : labN lab k b b' wr.heap.size w1.heap.size lb G = (3, 0, 0) := by unfold labN; rw [if_neg (by omega), if_neg (by omega), if_neg (by omega)]; exact h.lab3
  have hBt : ButM (fun x => x = G) w1 (putPn w1 G (k * 7) fs[k] b b') := by
    unfold putPn
    exact ((((((ButM.set (S := fun x => x = G) (ButM.refl _ _) rfl _).set rfl _).set rfl _).set rfl _).set rfl _).set rfl _).set rfl _
  refine ⟨hGl, fun x hx => ?_, fun i p hp => ?_⟩
  · rw [hsz]
    unfold labN at hx
    by_cases e1 : x = b
    · omega
    rw [if_neg e1] at hx
    by_cases e2 : x = b'
    · omega
    rw [if_neg e2] at hx
    by_cases e3 : wr.heap.size ≤ x ∧ x < w1.heap.size
    · omega
    rw [if_neg e3] at hx
    have := h.rng x hx
    omega
  · rw [take_snocN fs k hk] at hp
    have hl : (fs.take k).length = k := by simp; omega
    by_cases hi : i < k
    · rw [List.getElem?_append_left (by omega)] at hp
      have h1 := (h.node i p hp).relab (lab' := labN lab k b b' wr.heap.size w1.heap.size lb) (fun x hx => by unfold labN; rw [if_neg (by omega), if_neg (by omega), if_neg (by omega)])
      have h2 := h1.of hG hb1
      unfold putPn
      exact ((((((h2.far hGl (by omega) _).far hGl (by omega) _).far hGl (by omega) _).far hGl (by omega) _).far hGl (by omega) _).far hGl (by omega) _).far hGl (by omega) _
    · obtain rfl : i = k := by
        have := (List.getElem?_eq_some_iff.1 hp).1
        simp at this; omega
      rw [List.getElem?_append_right (by omega)] at hp
      simp [hl] at hp
      subst hp
      obtain ⟨v0, c0⟩ := hall 0 (by omega)
      obtain ⟨v1, c1⟩ := hall 1 (by omega)
      obtain ⟨v2, c2⟩ := hall 2 (by omega)
      obtain ⟨v3, c3⟩ := hall 3 (by omega)
      obtain ⟨v4, c4⟩ := hall 4 (by omega)
      obtain ⟨v5, c5⟩ := hall 5 (by omega)
      obtain ⟨v6, c6⟩ := hall 6 (by omega)
      rw [Nat.add_zero] at c0
      refine ⟨?_, ?_, ?_, ?_, ?_, ⟨.slice (some ⟨b, 0, none⟩) (fs[i]).Ex.length (fs[i]).Ex.length, ?_, ?_⟩, .slice (some ⟨b', 0, none⟩) (fs[i]).Exs.length (fs[i]).Exs.length, ?_, ?_⟩
      · unfold putPn; rw [setCell_otherN (by omega), setCell_otherN (by omega), setCell_otherN (by omega), setCell_otherN (by omega), setCell_otherN (by omega), setCell_otherN (by omega)]; exact World.cell?_setCell_same _ _ _ (c0)
      · unfold putPn; rw [setCell_otherN (by omega), setCell_otherN (by omega), setCell_otherN (by omega), setCell_otherN (by omega), setCell_otherN (by omega)]; exact World.cell?_setCell_same _ _ _ (by rw [setCell_otherN (by omega)]; exact c1)
      · unfold putPn; rw [setCell_otherN (by omega), setCell_otherN (by omega), setCell_otherN (by omega), setCell_otherN (by omega)]; exact World.cell?_setCell_same _ _ _ (by rw [setCell_otherN (by omega), setCell_otherN (by omega)]; exact c2)
      · unfold putPn; rw [setCell_otherN (by omega)]; exact World.cell?_setCell_same _ _ _ (by rw [setCell_otherN (by omega), setCell_otherN (by omega), setCell_otherN (by omega), setCell_otherN (by omega), setCell_otherN (by omega)]; exact c5)
      · unfold putPn; exact World.cell?_setCell_same _ _ _ (by rw [setCell_otherN (by omega), setCell_otherN (by omega), setCell_otherN (by omega), setCell_otherN (by omega), setCell_otherN (by omega), setCell_otherN (by omega)]; exact c6)
      · unfold putPn; rw [setCell_otherN (by omega), setCell_otherN (by omega), setCell_otherN (by omega)]; exact World.cell?_setCell_same _ _ _ (by rw [setCell_otherN (by omega), setCell_otherN (by omega), setCell_otherN (by omega)]; exact c3)
      · exact Or.inr ⟨b, _, rfl, Nat.le_refl _, by simp [labN], ho4.butM hBt (by omega)⟩
      · unfold putPn; rw [setCell_otherN (by omega), setCell_otherN (by omega)]; exact World.cell?_setCell_same _ _ _ (by rw [setCell_otherN (by omega), setCell_otherN (by omega), setCell_otherN (by omega), setCell_otherN (by omega)]; exact c4)
      · refine Or.inr ⟨b', _, rfl, by show labN lab i b b' wr.heap.size w1.heap.size lb b' = (1, i, 0); unfold labN; rw [if_neg (by omega), if_pos rfl], by rw [hsz]; exact hbs, fun j ys hy => ?_⟩
        obtain ⟨u, hu, hr⟩ := ho5 j ys hy
        refine ⟨u, (hBt.cell b' j hbs (by omega)).trans hu, ?_⟩
        have h1 := hr.mono (T := fun x => b' < x ∧ labN lab i b b' wr.heap.size w1.heap.size lb x = (2, i, j)) (fun x hx hs => ⟨hs.1, by have := hs.1; unfold labN; rw [if_neg (by omega), if_neg (by omega), if_pos (by omega), hs.2]⟩)
        exact (h1.but hBt (fun x hx e => by have := hx.1; omega)).mono (fun x _ hs => hs.2)
set_option maxHeartbeats 2000000 in
theorem toPNode_M (K T M L R : Int) (v v' : Value) (xs : List O2) (oss : List (List O2)) (w : World) (hv : IsOps w v xs) (hv' : IsOpss w v' oss) (hn : xs.length ≤ 1048576) (hn' : oss.length ≤ 1048576) (hx : bulkO oss ≤ 1048576) :
    Calls Tryz.prog 82 #[.agg #[.int .i64 K, .int .i64 T, .int .i64 M, v, v', .int .i64 L, .int .i64 R]] w fun e w' => ∃ (b b' : Nat) (lb : Nat → Nat), e = .returned (.agg #[.int .i64 K, .int .i64 T, .int .i64 M, .slice (some ⟨b, 0, none⟩) xs.length xs.length, .slice (some ⟨b', 0, none⟩) oss.length oss.length, .int .i64 L, .int .i64 R]) ∧
      w.heap.size ≤ b ∧ b < b' ∧ b' < w'.heap.size ∧ OwnOps w' b xs.length xs ∧ OpssAt w' b' oss ∧ OssM w' b' lb oss ∧ Below w.heap.size w w' := by
  have TI := fun W (hb : Below w.heap.size w W) => toOpS_calls v xs W (hv.of hb) hn
  have TJ := fun W (hb : Below w.heap.size w W) => toOpSS_M v' oss W (hv'.of hb) hn' hx
  have HT := hide TI; have HJ := hide TJ
  obtain ⟨a, cap, rfl⟩ := isOps_slice hv
  obtain ⟨a', cap', rfl⟩ := isOpss_slice hv'
  clear TI TJ hv hv'
  go_enter Tryz.func82, Tryz.ntmps82
  go_wp2_with fail
  refine (unhide HT _ (by (repeat (first | exact Below.refl _ _ | refine bA ?_ _ | refine Below.setCell ?_ (by simp <;> omega) _)))).mono ?_; rintro e w1 ⟨b, rfl, hb0, ho, hb1⟩
  obtain ⟨hc, hf⟩ := bcell hb1
  have hs1 : w.heap.size + 3 ≤ w1.heap.size := by have := hb1.size; simpa using this
  have hbb : w.heap.size + 3 ≤ b := by simpa using hb0
  have d1 : Below w.heap.size w w1 := bT (by (repeat (first | exact Below.refl _ _ | refine bA ?_ _))) hb1
  have HO := hide ho
  clear ho hb1 hb0
  go_wp2_with fail
  refine (unhide HJ _ (d1.setCell (by dsimp only; omega) _)).mono ?_; rintro e w2 ⟨b', lb, rfl, hb0', ho', hol, hb2⟩
  have hs2 : w1.heap.size ≤ w2.heap.size := by have := hb2.size; simpa using this
  have hbb' : w1.heap.size ≤ b' := by simpa using hb0'
  obtain ⟨hc2, hf2⟩ := bcell hb2
  simp only [World.size_setCell] at hc2 hf2
  have d2 : Below w.heap.size w w2 := bT (d1.setCell (by dsimp only; omega) _) hb2
  have hO2 : OwnOps w2 b xs.length xs := ((unhide HO).butM (ButM.set (S := fun x => x = w.heap.size + 1 + 1) (ButM.refl _ _) rfl _) (by omega)).of hb2
  have hsb : b < w1.heap.size := (unhide HO).size
  have HO2 := hide hO2; have HP := hide ho'.held; have HD := hide d2; have HOl := hide hol
  have hsb' := ho'.size
  have z1 : w.heap.size < w1.heap.size := by omega
  have z2 : w.heap.size + 1 < w1.heap.size := by omega
  have z3 : w.heap.size + 1 + 1 < w1.heap.size := by omega
  clear hO2 ho' d2 d1 hb2 HO hb0' hol
  go_wp2
  refine bodyPost_ret (v := .agg #[.int .i64 K, .int .i64 T, .int .i64 M, .slice (some ⟨b, 0, none⟩) xs.length xs.length, .slice (some ⟨b', 0, none⟩) oss.length oss.length, .int .i64 L, .int .i64 R]) (by simp [results, Tryz.results82, go_sem, hc, hc2, z2]) rfl ⟨b, b', lb, rfl, by omega, by omega, by simpa using hsb', ?_, ?_, ?_, ?_⟩
  · (repeat (refine OwnOps.butM ?_ (ButM.set (S := fun x => x < w.heap.size + 3) (ButM.refl _ _) (by omega) _) (by omega)))
    exact unhide HO2
  · (repeat (refine OpssAt.far ?_ (by omega) _))
    exact unhide HP
  · (repeat (refine OssM.far ?_ (by omega) _))
    exact unhide HOl
  · (repeat (refine Below.setCell ?_ (by dsimp only; omega) _))
    exact unhide HD
set_option maxHeartbeats 4000000 in
theorem toPNodeS_M (v : Value) (ps : List Pn) (w : World) (hv : IsPns w v ps) (hn : ps.length ≤ 1048576) (hk : ∀ p ∈ ps, p.Ex.length ≤ 1048576 ∧ p.Exs.length ≤ 1048576 ∧ bulkO p.Exs ≤ 1048576) :
    Calls Tryz.prog 45 #[v] w fun e w' => ∃ (g : Nat) (lab : Lb), e = .returned (.slice (some ⟨g, 0, none⟩) ps.length ps.length) ∧ w.heap.size ≤ g ∧ OwnPns w' g ps.length ps ∧ PlT w' lab w.heap.size g ps.length ps ∧ Below w.heap.size w w' := by
  rcases hv with ⟨rfl, a, cap, rfl⟩ | ⟨g, off, cap, rfl, hg, hr⟩
  · have hmk := make_pns0
    clear hn hk
    go_enter Tryz.func45, Tryz.ntmps45
    go_wp2
    go_loopw [4] (fun i wr => i = .int .i64 0 ∧ OwnPns wr w.heap.size 0 [] ∧ Below w.heap.size w wr) (fun _ _ => 0)
    case atStart => exact ⟨rfl, OwnPns.made w 0 #[] _ rfl, bA (Below.refl _ _) _⟩
    case round =>
      obtain ⟨rfl, ho, hb⟩ := hrel
      have hsz := ho.size
      go_wp2
      go_ret
      exact ⟨_, fun x => if x = w.heap.size then (3, 0, 0) else (4, 0, 0), rfl, Nat.le_refl _, ho, ⟨by simp, fun b hb' => by by_cases e : b = w.heap.size <;> simp [e] at hb' ⊢; exact hsz, fun i p hp => by simp at hp⟩, hb⟩
  · have hmk := make_pns ps.length hn
    have hO : Hid (OwnPns (w.alloc (.cells (madeCells #[.int .i64 0, .int .i64 0, .int .i64 0, .slice none 0 0, .slice none 0 0, .int .i64 0, .int .i64 0] (ps.length * 7)) 130)) w.heap.size ps.length []) := OwnPns.made w _ _ _ (by simp [size_madeCells])
    have HK := hide hk
    have HR := hide hr
    clear hk hr
    go_enter Tryz.func45, Tryz.ntmps45
    go_wp2
    go_loopw [4] (fun i wr => ∃ k : Nat, k ≤ ps.length ∧ i = .int .i64 k ∧ OwnPns wr w.heap.size ps.length (ps.take k) ∧ (∃ lab : Lb, PlT wr lab w.heap.size w.heap.size k ps) ∧ Below w.heap.size w wr) (fun i _ => ps.length - (intOf i).toNat)
    case atStart => exact ⟨0, Nat.zero_le _, rfl, by simpa using hO.out, ⟨fun x => if x = w.heap.size then (3, 0, 0) else (4, 0, 0), by simp, fun b hb' => by by_cases e : b = w.heap.size <;> simp [e] at hb' ⊢, fun i p hp => by simp at hp⟩, bA (Below.refl _ _) _⟩
    case round =>
      clear hO hmk
      obtain ⟨k, hk, rfl, ho, ⟨lab, hl⟩, hb⟩ := hrel
      by_cases hlt : k < ps.length
      · obtain ⟨a0, a1, a2, a5, a6, ⟨u, a3, hu⟩, u', a4, hu'⟩ := (unhide HR) k ps[k] (List.getElem?_eq_getElem hlt)
        have c0 := (hb.cell (p := ⟨g, off + k * 7, none⟩) hg).trans a0
        have c1 := (hb.cell (p := ⟨g, off + k * 7 + 1, none⟩) hg).trans a1
        have c2 := (hb.cell (p := ⟨g, off + k * 7 + 2, none⟩) hg).trans a2
        have c3 := (hb.cell (p := ⟨g, off + k * 7 + 3, none⟩) hg).trans a3
        have c4 := (hb.cell (p := ⟨g, off + k * 7 + 4, none⟩) hg).trans a4
        have c5 := (hb.cell (p := ⟨g, off + k * 7 + 5, none⟩) hg).trans a5
        have c6 := (hb.cell (p := ⟨g, off + k * 7 + 6, none⟩) hg).trans a6
        obtain ⟨hk1, hk2, hk3⟩ := unhide HK _ (List.getElem_mem hlt)
        have hput := fun (w1 : World) (h : OwnPns w1 w.heap.size ps.length (ps.take k)) b b' h1 h2 h3 h4 h5 h6 => h.put hlt hlt b b' h1 h2 h3 h4 h5 h6
        have hputM := fun (w1 : World) b b' lb h1 h2 h3 h4 h5 h6 h7 => hl.put (w1 := w1) (b := b) (b' := b') (lb := lb) hb.size ho.size hlt h1 h2 h3 h4 h5 h6 h7
        have hTN := fun W (hbW : Below w.heap.size w W) => toPNode_M (ps[k]).K (ps[k]).T (ps[k]).M (ps[k]).L (ps[k]).R u u' (ps[k]).Ex (ps[k]).Exs W (hu.of hbW) (hu'.of hbW) hk1 hk2 hk3
        cases e : ps[k] with | mk K T M Ex Exs L R =>
        rw [e] at c0 c1 c2 c5 c6 hput hputM hTN hu hu'
        simp only at c0 c1 c2 c5 c6 hput hputM hTN hu hu'
        obtain ⟨ua, ucap, rfl⟩ := isOps_slice hu
        obtain ⟨ua', ucap', rfl⟩ := isOpss_slice hu'
        have HTN := hide hTN; have HPut := hide hput; have HPutM := hide hputM
        have HO := hide ho
        have q1 : g < wr.heap.size := Nat.lt_of_lt_of_le hg hb.size
        have j1 : (k : Int) < (ps.length : Int) := by omega
        clear hTN hput hputM hu hu' e ho hl a0 a1 a2 a3 a4 a5 a6 hk1 hk2 hk3
        go_wp2_with fail
        refine (unhide HTN _ hb).mono ?_; rintro e w1 ⟨b, b', lb, rfl, hb0, hbb, hbs, hbo, hbo', hbm, hb1⟩
        have d1 := bT hb hb1
        have ho1 := (unhide HO).of hb1
        have hN := unhide HPut w1 ho1 b b' (Nat.lt_of_lt_of_le (unhide HO).size hb0) (by omega) hbo.held (by have := (unhide HO).size; omega) hbs hbo'
        have hN2 := unhide HPutM w1 b b' lb hb1 hb0 hbb hbs hbo hbm (fun o ho => ho1.all (k * 7 + o) (by omega))
        obtain ⟨u0, hu0⟩ := ho1.all (k * 7) (by omega)
        obtain ⟨u1, hu1⟩ := ho1.all (k * 7 + 1) (by omega)
        obtain ⟨u2, hu2⟩ := ho1.all (k * 7 + 2) (by omega)
        obtain ⟨u3, hu3⟩ := ho1.all (k * 7 + 3) (by omega)
        obtain ⟨u4, hu4⟩ := ho1.all (k * 7 + 4) (by omega)
        obtain ⟨u5, hu5⟩ := ho1.all (k * 7 + 5) (by omega)
        obtain ⟨u6, hu6⟩ := ho1.all (k * 7 + 6) (by omega)
        have hf := ho1.frz
        have HN := hide hN; have HN2 := hide hN2
        have HB := hide (putPn_below (g := w.heap.size) (o := k * 7) d1 (Nat.le_refl _) ⟨K, T, M, Ex, Exs, L, R⟩ b b')
        clear hN hN2 ho1 hbo hbo' hbm hb1 HO HPut HPutM HTN c0 c1 c2 c3 c4 c5 c6 hb0 hbb hbs
        go_wp2
        go_roundw
        case rel => exact ⟨k + 1, by omega, by go_num, unhide HN, ⟨_, unhide HN2⟩, unhide HB⟩
        case measure => simp [intOf]; omega
      · obtain rfl : k = ps.length := by omega
        rw [List.take_length] at ho
        go_wp2
        go_ret
        exact ⟨_, lab, rfl, Nat.le_refl _, ho, hl, hb⟩
theorem PlT.full {w : World} {lab : Lb} {B G : Nat} {fs : List Pn} (h : PlT w lab B G fs.length fs) (ho : OwnPns w G fs.length fs) : PlM w lab G fs :=
  ⟨ho.size, h.lab3, ho.frz, fun i p hp => h.node i p (by rw [List.take_length]; exact hp)⟩
set_option maxHeartbeats 1000000 in
theorem toPlan_M (v : Value) (ps : List Pn) (w : World) (hv : IsPns w v ps) (hn : ps.length ≤ 1048576) (hk : ∀ p ∈ ps, p.Ex.length ≤ 1048576 ∧ p.Exs.length ≤ 1048576 ∧ bulkO p.Exs ≤ 1048576) :
    Calls Tryz.prog 18 #[.agg #[v]] w fun e w' => ∃ (g : Nat) (lab : Lb), e = .returned (.agg #[.slice (some ⟨g, 0, none⟩) ps.length ps.length]) ∧ w.heap.size ≤ g ∧ g < w'.heap.size ∧ PnsAt w' g 0 ps ∧ PlM w' lab g ps ∧ (∀ b, (lab b).1 ≤ 3 → w.heap.size + 3 ≤ b ∧ b < w'.heap.size) ∧ Below w.heap.size w w' := by
  have TI := fun W (hb : Below w.heap.size w W) => toPNodeS_M v ps W (hv.of hb) hn hk
  have HT := hide TI
  obtain ⟨a, cap, rfl⟩ := isPns_slice hv
  clear TI hv
  go_enter Tryz.func18, Tryz.ntmps18
  go_wp2_with fail
  refine (unhide HT _ (by (repeat (first | exact Below.refl _ _ | refine bA ?_ _)))).mono ?_; rintro e w1 ⟨g, lab, rfl, hg, ho, hl, hb1⟩
  obtain ⟨hc, hf⟩ := bcell hb1
  have hs1 : w.heap.size + 3 ≤ w1.heap.size := by have := hb1.size; simpa using this
  have hg1 : w.heap.size + 3 ≤ g := by simpa using hg
  have hr : ∀ b, (lab b).1 ≤ 3 → w.heap.size + 3 ≤ b ∧ b < w1.heap.size := fun b hb => by have := hl.rng b hb; simpa using this
  have HO := hide ho; have HB := hide (bT (by (repeat (first | exact Below.refl _ _ | refine bA ?_ _))) hb1 : Below w.heap.size w w1)
  have HF := hide (hl.full ho); have HR := hide hr
  clear ho hb1 hg hl hr
  go_wp2
  refine bodyPost_ret (v := .agg #[.slice (some ⟨g, 0, none⟩) ps.length ps.length]) (by simp [results, Tryz.results18, go_sem, hc]) rfl ⟨g, lab, rfl, by omega, ?_, ?_, ?_, ?_, ?_⟩
  · have := (unhide HO).size
    simpa using this
  · (repeat (refine PnsAt.far ?_ (by omega) _))
    exact (unhide HO).held
  · (repeat (refine PlM.but ?_ (ButM.set (S := fun x => x < w.heap.size + 3) (ButM.refl _ _) (by omega) _) (fun b hb => by have := unhide HR b hb; omega)))
    exact unhide HF
  · intro b hb
    have := unhide HR b hb
    simpa using this
  · (repeat (refine Below.setCell ?_ (by dsimp only; omega) _))
    exact unhide HB
end Go.Proofs.YtnchcndcinpalaaGreatDoor
namespace Go.Proofs.YtnchcndcinpalaaGreatDoor
def szr (left : Int) (t : Nat) : Int := if left < (t : Int) then -1 else left - (t : Int)
end Go.Proofs.YtnchcndcinpalaaGreatDoor
